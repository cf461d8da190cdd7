import PyProof.Rows.All
import Wide.All
import OpenK.AllK
import Wide.FinOn
import PyProof.EqAt
import PyProof.EqKinds
import PyProof.TupleCall
import KE.BitLaws
import PySem.Challenge.RW_forkjoins_k04_changed
set_option Elab.async false
set_option linter.all false
set_option maxRecDepth 100000
/-! THE HAND LAYER, for ints, bools, texts, own classes, lists, tuples, dicts, comprehensions, walks over dicts, enumerate, zip, reversed, texts, calls, loops. Paste it whole ahead of your own text; what your proof does not reach may be deleted. -/
namespace L2
open PySem PySem.Spec PyProof.Rows

/-- a key: an int or a str -/
abbrev Key := Sum Int Str
def keyIs : Key → Value → Bool
  | .inl k, v => Value.isInt k v
  | .inr x, v => Value.isStrOf x v
def keyH (w : World) : Key → Int
  | .inl k => hashInt k
  | .inr x => hashStr w x
theorem keyIs_shape : ∀ {k : Key} {v : Value}, keyIs k v = true → (∃ i t, k = Sum.inl i ∧ v = Value.int i t) ∨ (∃ x t, k = Sum.inr x ∧ v = Value.str x t)
  | .inl i, v, h => by
    obtain ⟨t, e⟩ := Value.isInt_shape (k := i) (v := v) h
    exact .inl ⟨i, t, rfl, e⟩
  | .inr x, v, h => by
    obtain ⟨t, e⟩ := Value.isStrOf_shape (x := x) (v := v) h
    exact .inr ⟨x, t, rfl, e⟩
theorem keyIs_int (i : Int) (t : Tok) : keyIs (.inl i) (.int i t) = true := by simp [keyIs, Value.isInt]
theorem keyIs_str (x : Str) (t : Tok) : keyIs (.inr x) (.str x t) = true := by simp [keyIs, Value.isStrOf]
theorem key_ll (a b : Int) : decide ((Sum.inl a : Key) = Sum.inl b) = (a == b) := by
  by_cases e : a = b
  · subst e; simp
  · have h : ¬ (Sum.inl a : Key) = Sum.inl b := fun q => e (Sum.inl.inj q)
    rw [decide_eq_false h]
    exact (beq_eq_false_iff_ne.mpr e).symm
theorem key_rr (a b : Str) : decide ((Sum.inr a : Key) = Sum.inr b) = decide (a = b) := by
  by_cases e : a = b
  · subst e; simp
  · have h : ¬ (Sum.inr a : Key) = Sum.inr b := fun q => e (Sum.inr.inj q)
    rw [decide_eq_false h, decide_eq_false e]
theorem key_lr (a : Int) (b : Str) : decide ((Sum.inl a : Key) = Sum.inr b) = false := decide_eq_false (fun q => nomatch q)
theorem key_rl (a : Str) (b : Int) : decide ((Sum.inr a : Key) = Sum.inl b) = false := decide_eq_false (fun q => nomatch q)

def mixKind (prog : Program) (w : World) : PySem.KeyKind prog w Key where
  is := keyIs
  hash := keyH w
  inj := fun v a b ha hb => by
    rcases keyIs_shape ha with ⟨i, t, rfl, rfl⟩ | ⟨x, t, rfl, rfl⟩
    · rcases keyIs_shape hb with ⟨j, u, rfl, e⟩ | ⟨y, u, rfl, e⟩
      · injection e with e1 _; rw [e1]
      · exact nomatch e
    · rcases keyIs_shape hb with ⟨j, u, rfl, e⟩ | ⟨y, u, rfl, e⟩
      · exact nomatch e
      · injection e with e1 _; rw [e1]
  byValue := fun k v h => by
    rcases keyIs_shape h with ⟨i, t, rfl, rfl⟩ | ⟨x, t, rfl, rfl⟩ <;> rfl
  pyHash := fun hv h => by
    rcases keyIs_shape hv with ⟨i, t, rfl, rfl⟩ | ⟨x, t, rfl, rfl⟩
    · exact wpAny_pyHash_int h
    · exact wpAny_pyHash_str h
  eqBool := fun hu hv h => by
    rcases keyIs_shape hu with ⟨i, t, rfl, rfl⟩ | ⟨x, t, rfl, rfl⟩
    · rcases keyIs_shape hv with ⟨j, u, rfl, rfl⟩ | ⟨y, u, rfl, rfl⟩
      · rw [key_ll] at h; exact wpAny_eqBool_int h
      · rw [key_lr] at h; exact SeqAt.EqAt.int_str i t y u _ _ _ _ h
    · rcases keyIs_shape hv with ⟨j, u, rfl, rfl⟩ | ⟨y, u, rfl, rfl⟩
      · rw [key_rl] at h; exact SeqAt.EqAt.str_int x t j u _ _ _ _ h
      · rw [key_rr] at h; exact wpAny_eqBool_str h
  «strs» := fun k x t v h => by
    rcases keyIs_shape h with ⟨i, u, rfl, e⟩ | ⟨y, u, rfl, e⟩
    · exact nomatch e
    · injection e with e1 _
      subst e1
      cases v <;> rfl

theorem mixKind_int (prog : Program) (w : World) (i : Int) (t : Tok) : (mixKind prog w).is (.inl i) (.int i t) = true := keyIs_int i t
theorem mixKind_str (prog : Program) (w : World) (x : Str) (t : Tok) : (mixKind prog w).is (.inr x) (.str x t) = true := keyIs_str x t
end L2

namespace L2
open PySem PySem.Spec PyProof.Rows

/-- a value, without the heap -/
inductive V where
  | non | bl (b : Bool) | int (i : Int) | str (x : Str) | byt (b : Array UInt8) | flt (b : UInt64) | ref (a : Addr) | ty (n : String)
  deriving DecidableEq

def RelV : V → Value → Prop
  | .non, u => u = Value.none
  | .bl b, u => u = Value.bool b
  | .int i, u => ∃ t, u = Value.int i t
  | .str x, u => ∃ t, u = Value.str x t
  | .byt b, u => ∃ t, u = Value.bytes b t
  | .flt b, u => ∃ t, u = Value.float b t
  | .ref a, u => u = Value.ref a
  | .ty n, u => u = Value.type n

abbrev Vals : List V → List Value → Prop := Paired RelV
theorem Vals.length {xs : List V} {us : List Value} (r : Vals xs us) : xs.length = us.length := Paired.length r
theorem Vals.get : ∀ {xs : List V} {us : List Value} {i : Nat} {x : V}, Vals xs us → xs[i]? = some x → ∃ u, us[i]? = some u ∧ RelV x u
  | _, _, _, _, .nil, e => by simp at e
  | _, _, 0, _, .cons r _, e => by simp at e; subst e; exact ⟨_, rfl, r⟩
  | _, _, i + 1, x, .cons _ t, e => by
    obtain ⟨u, h1, h2⟩ := Vals.get (i := i) (x := x) t (by simpa using e)
    exact ⟨u, by simpa using h1, h2⟩
theorem Vals.append : ∀ {xs ys : List V} {us ws : List Value}, Vals xs us → Vals ys ws → Vals (xs ++ ys) (us ++ ws)
  | _, _, _, _, .nil, s => s
  | _, _, _, _, .cons r t, s => .cons r (Vals.append t s)
theorem Vals.take : ∀ {xs : List V} {us : List Value} (n : Nat), Vals xs us → Vals (xs.take n) (us.take n)
  | _, _, 0, _ => .nil
  | _, _, _ + 1, .nil => .nil
  | _, _, n + 1, .cons r t => .cons r (Vals.take n t)
theorem Vals.drop : ∀ {xs : List V} {us : List Value} (n : Nat), Vals xs us → Vals (xs.drop n) (us.drop n)
  | _, _, 0, r => r
  | _, _, _ + 1, .nil => .nil
  | _, _, n + 1, .cons _ t => Vals.drop n t
def RelO : Option V → Option Value → Prop
  | some v, some u => RelV v u
  | none, none => True
  | _, _ => False
def KV {κ : Type} : List (κ × V) → List (κ × Value) → Prop := Paired fun (p : κ × V) (q : κ × Value) => p.1 = q.1 ∧ RelV p.2 q.2

/-- a key of a dict (00_mix): an int or a text -/
def kV : Key → V
  | .inl i => .int i
  | .inr x => .str x

/-- what stands at a tracked address -/
inductive HO where
  /-- a list -/
  | lst (xs : List V)
  /-- a tuple (never changes) -/
  | tup (xs : List V)
  /-- a dict whose keys are ints and texts; one whose keys are tuples of ints and texts (the empty one is both) -/
  | dK (kvs : List (Key × V)) | dT (kvs : List (List Key × V))
  /-- a set of ints: its members, its size -/
  | set (S : Int → Bool) (n : Nat)
  /-- an instance of the class at C, its dict at dx, its attributes -/
  | ins (C dx : Addr) (fs : List (Str × V))
  /-- the dict of the instance at x -/
  | own (x : Addr)
  /-- the dict of an exception -/
  | xd (fs : List (Str × V))
  /-- a bound method, f of x -/
  | met (f x : Addr)
  /-- a range object lo, lo + 1, .. below hi -/
  | rng (lo hi : Int)
  /-- a thing that is known to the object (the script; a dict while a loop walks it): read, never written while it is so -/
  | frz (o : Obj) (u : HO)
  /-- a code object's table -/
  | tbl (ps : Array Value)
  /-- any other thing, by what is true of its one object (a def of one's own: SetO a S n := HO.ext fun h => ..) -/
  | ext (φ : Heap → Prop)

abbrev Hp := Addr → Option HO
def upd (H : Hp) (a : Addr) (o : HO) : Hp := fun b => if b = a then some o else H b
theorem upd_same {H : Hp} {a : Addr} {o : HO} : upd H a o a = some o := by unfold upd; rw [if_pos rfl]
theorem upd_ne {H : Hp} {a b : Addr} {o : HO} (h : b ≠ a) : upd H a o b = H b := by unfold upd; rw [if_neg h]
theorem upd_upd {H : Hp} {a : Addr} {o u : HO} : upd (upd H a o) a u = upd H a u := by
  funext b; unfold upd; split <;> rfl
/-- two objects of different content stand apart -/
theorem ne_of {H : Hp} {a b : Addr} {o u : HO} (h : H a = some o) (h' : H b = some u) (d : o ≠ u) : a ≠ b := by
  intro e; subst e; rw [h] at h'; exact d (Option.some.inj h')
theorem ne_of_none {H : Hp} {a b : Addr} {o : HO} (h : H a = some o) (h' : H b = none) : a ≠ b := by
  intro e; subst e; rw [h] at h'; cases h'

/-- a tuple, without a dict of its own -/
def IsTupN (h : Heap) (a : Addr) (items : Array Value) : Prop := ∃ o, h.get? a = some o ∧ o.cls = .type "tuple" ∧ ∃ n, o.data = .seq items n ∧ o.dict = none
theorem IsTupN.tup {h : Heap} {a : Addr} {items : Array Value} (x : IsTupN h a items) : IsTup h a items := let ⟨o, h1, h2, n, h3, _⟩ := x; ⟨o, h1, h2, n, h3⟩
theorem IsTupN.new (h : Heap) (items : Array Value) : IsTupN (h.push { cls := .type "tuple", data := .seq items }) h.objs.size items := ⟨_, Heap.get?_push_size _ rfl, rfl, _, rfl, rfl⟩

section
variable (P : Program) (w : World)
def ObjOk (H : Hp) (h : Heap) (a : Addr) : HO → Prop
  | .lst xs => xs.length ≤ sizeLine ∧ ∃ (its : List Value) (n : Nat), Vals xs its ∧ h.get? a = some { cls := .type "list", data := .seq its.toArray n }
  | .tup xs => xs.length ≤ sizeLine ∧ ∃ its : List Value, Vals xs its ∧ IsTupN h a its.toArray
  | .dK kvs => kvs.length ≤ sizeLine ∧ (a == sysModules) = false ∧ ∃ vs, KV kvs vs ∧ h.DictOf (mixKind P w) a vs
  | .dT kvs => kvs.length ≤ sizeLine ∧ (a == sysModules) = false ∧ ∃ xs : List (List Key × Addr × Value),
      Paired (fun (p : List Key × V) (q : List Key × Addr × Value) => p.1 = q.1 ∧ H q.2.1 = some (.tup (p.1.map kV)) ∧ RelV p.2 q.2.2) kvs xs ∧
      ∃ o es ep, h.get? a = some o ∧ o.ExactDict ∧ o.data = .dict es ep ∧ es.toList = xs.map (entryOfKey (tupleKind (mixKind P w))) ∧ (xs.map (·.1)).Nodup
  | .set S n => h.SetOf (intKind P w) a S n
  | .ins C dx fs => H dx = some (.own a) ∧ fs.length ≤ 1000 ∧ dx ≠ a ∧ h.get? a = some (PySem.W.instObj C dx) ∧
      ∃ mA, h.Ns1 dx mA ∧ (∀ f, RelO (fs.lookup f) (mA f)) ∧ PySem.Within mA (fs.map (·.1))
  | .own _ => ∃ o, h.get? a = some o
  | .xd fs => ∃ mA, h.Ns1 a mA ∧ ∀ f, RelO (fs.lookup f) (mA f)
  | .rng lo hi => ∃ t u v, h.get? a = some { cls := .type "range", data := .fields #[.int lo t, .int hi u, .int 1 v] }
  | .frz o u => h.get? a = some o ∧ ObjOk H h a u
  | .tbl ps => h.get? a = some { cls := .none, data := .fields ps }
  | .met f x => h.get? a = some (PySem.W.methodObj (.ref f) (.ref x))
  | .ext φ => φ h ∧ (∃ o, h.get? a = some o) ∧ ∀ h1 h2 : Heap, φ h1 → (∀ o, h1.get? a = some o → h2.get? a = some o) → φ h2
/-- the abstract heap is held -/
def HOk (H : Hp) (h : Heap) : Prop := ∀ a o, H a = some o → ObjOk P w H h a o
end

section
variable {P : Program} {w : World} {H H' : Hp} {h h' : Heap} {a : Addr} {o : HO}
theorem ObjOk.lt (x : ObjOk P w H h a o) : a < h.objs.size := by
  cases o with
  | lst xs => obtain ⟨_, _, _, _, e⟩ := x; exact Heap.lt_size e
  | tup xs => obtain ⟨_, _, _, p⟩ := x; exact p.tup.lt
  | dK kvs => obtain ⟨_, _, _, _, o, _, _, e, _⟩ := x; exact Heap.lt_size e
  | dT kvs => obtain ⟨_, _, _, _, o, _, _, e, _⟩ := x; exact Heap.lt_size e
  | set S n => obtain ⟨o, _, _, _, e, _⟩ := x; exact Heap.lt_size e
  | ins C dx fs => obtain ⟨_, _, _, e, _⟩ := x; exact Heap.lt_size e
  | own y => obtain ⟨_, e⟩ := x; exact Heap.lt_size e
  | xd fs => obtain ⟨_, ⟨_, _, _, e, _⟩, _⟩ := x; exact Heap.lt_size e
  | rng lo hi => obtain ⟨_, _, _, e⟩ := x; exact Heap.lt_size e
  | frz ob u => obtain ⟨e, _⟩ := x; exact Heap.lt_size e
  | tbl ps => exact Heap.lt_size (show h.get? a = some _ from x)
  | met f y => exact Heap.lt_size (show h.get? a = some _ from x)
  | ext φ => obtain ⟨_, ⟨_, e⟩, _⟩ := x; exact Heap.lt_size e
theorem Paired.mapP {α β : Type} {F G : α → β → Prop} : ∀ {l₁ : List α} {l₂ : List β}, Paired F l₁ l₂ → (∀ a b, F a b → G a b) → Paired G l₁ l₂
  | _, _, .nil, _ => .nil
  | _, _, .cons r t, f => .cons (f _ _ r) (Paired.mapP t f)
/-- what an object's description leans on: its own object, its own dict, the tuples -/
theorem ObjOk.stay (x : ObjOk P w H h a o) (k : ∀ b u, (b = a ∨ H b = some (.own a)) → h.get? b = some u → h'.get? b = some u)
    (ho : ∀ b, H b = some (.own a) → H' b = some (.own a)) (ht : ∀ b xs, H b = some (.tup xs) → H' b = some (.tup xs)) : ObjOk P w H' h' a o := by
  induction o with
  | lst xs => obtain ⟨z, its, n, r, e⟩ := x; exact ⟨z, its, n, r, k _ _ (.inl rfl) e⟩
  | tup xs => obtain ⟨z, its, r, ob, e, c⟩ := x; exact ⟨z, its, r, ob, k _ _ (.inl rfl) e, c⟩
  | dK kvs => obtain ⟨z, y, vs, r, ob, es, ep, e, c⟩ := x; exact ⟨z, y, vs, r, ob, es, ep, k _ _ (.inl rfl) e, c⟩
  | dT kvs =>
    obtain ⟨z, y, xs, r, ob, es, ep, e, c⟩ := x
    exact ⟨z, y, xs, Paired.mapP r fun p q z => ⟨z.1, ht _ _ z.2.1, z.2.2⟩, ob, es, ep, k _ _ (.inl rfl) e, c⟩
  | set S n => obtain ⟨ob, es, ep, t, e, c⟩ := x; exact ⟨ob, es, ep, t, k _ _ (.inl rfl) e, c⟩
  | ins C dx fs =>
    obtain ⟨d, z, ne, e, mA, ⟨od, es, ep, e2, c⟩, r⟩ := x
    exact ⟨ho _ d, z, ne, k _ _ (.inl rfl) e, mA, ⟨od, es, ep, k _ _ (.inr d) e2, c⟩, r⟩
  | own y => obtain ⟨ob, e⟩ := x; exact ⟨ob, k _ _ (.inl rfl) e⟩
  | xd fs => obtain ⟨mA, ⟨od, es, ep, e, c⟩, r⟩ := x; exact ⟨mA, ⟨od, es, ep, k _ _ (.inl rfl) e, c⟩, r⟩
  | rng lo hi => obtain ⟨t, u, v, e⟩ := x; exact ⟨t, u, v, k _ _ (.inl rfl) e⟩
  | frz ob u ih => obtain ⟨e, q⟩ := x; exact ⟨k _ _ (.inl rfl) e, ih q⟩
  | tbl ps =>
    have e : h.get? a = some { cls := .none, data := .fields ps } := x
    show h'.get? a = some { cls := .none, data := .fields ps }
    exact k a _ (.inl rfl) e
  | met f y =>
    have e : h.get? a = some (PySem.W.methodObj (.ref f) (.ref y)) := x
    show h'.get? a = some (PySem.W.methodObj (.ref f) (.ref y))
    exact k a _ (.inl rfl) e
  | ext φ => obtain ⟨p, ⟨o, e⟩, st⟩ := x; exact ⟨st _ _ p fun o q => k _ _ (.inl rfl) q, ⟨o, k _ _ (.inl rfl) e⟩, st⟩
theorem HOk.lt (x : HOk P w H h) (e : H a = some o) : a < h.objs.size := (x a o e).lt
theorem HOk.fresh (x : HOk P w H h) (e : h.objs.size ≤ a) : H a = none := by
  cases q : H a with
  | none => rfl
  | some u => exact absurd (Nat.lt_of_lt_of_le (x.lt q) e) (Nat.lt_irrefl _)
/-- every object of the heap is kept -/
theorem HOk.kept (x : HOk P w H h) (k : ∀ b u, h.get? b = some u → h'.get? b = some u) : HOk P w H h' := fun a o e =>
  (x a o e).stay (fun b u _ q => k b u q) (fun _ q => q) fun _ _ q => q
/-- a new object is laid and tracked -/
theorem HOk.laid (x : HOk P w H h) (k : ∀ b u, h.get? b = some u → h'.get? b = some u) (hp : h.objs.size ≤ a) (new : ObjOk P w (upd H a o) h' a o) : HOk P w (upd H a o) h' := fun b u e => by
  have hn := x.fresh hp
  by_cases hb : b = a
  · subst hb; rw [upd_same] at e; cases e; exact new
  · rw [upd_ne hb] at e
    exact (x b u e).stay (fun c v _ q => k c v q) (fun c q => by rw [upd_ne (ne_of_none q hn)]; exact q) fun c xs q => by rw [upd_ne (ne_of_none q hn)]; exact q
end

/-- what may be read as u: it is u, or a known u -/
def Rd (H : Hp) (a : Addr) (u : HO) : Prop := H a = some u ∨ ∃ o, H a = some (.frz o u)
theorem Rd.ok {P : Program} {w : World} {H : Hp} {h : Heap} {a : Addr} {u : HO} (r : Rd H a u) (x : HOk P w H h) : ObjOk P w H h a u := by
  rcases r with r | ⟨o, r⟩
  · exact x a u r
  · obtain ⟨_, q⟩ := x a _ r
    exact q
/-- what may be written -/
def Mut : Option HO → Prop
  | some (.lst _) => True
  | some (.dK _) => True
  | some (.dT _) => True
  | some (.set _ _) => True
  | some (.ins _ _ _) => True
  | some (.ext _) => True
  | _ => False
section
variable {P : Program} {w : World} {H : Hp} {h h' : Heap} {x e : Addr} {o' : HO}
/-- the object at e is changed: x itself, or the dict of the instance x -/
theorem HOk.write (ok : HOk P w H h) (mu : Mut (H x)) (he : e = x ∨ H e = some (.own x)) (k : ∀ b u, b ≠ e → h.get? b = some u → h'.get? b = some u) (heo : ∃ u, h'.get? e = some u)
    (new : ObjOk P w (upd H x o') h' x o') : HOk P w (upd H x o') h' := fun b u q => by
  have nown : ∀ c y, H c = some (.own y) → c ≠ x := fun c y r z => by subst z; rw [r] at mu; exact mu
  have ntup : ∀ c xs, H c = some (.tup xs) → c ≠ x := fun c xs r z => by subst z; rw [r] at mu; exact mu
  by_cases hb : b = x
  · subst hb; rw [upd_same] at q; cases q; exact new
  · rw [upd_ne hb] at q
    by_cases hbe : b = e
    · have q' : H b = some (.own x) := by
        rcases he with z | z
        · exact absurd (hbe.trans z) hb
        · rw [hbe]; exact z
      rw [q] at q'; cases q'
      obtain ⟨v, hv⟩ := heo
      exact ⟨v, by rw [hbe]; exact hv⟩
    · refine (ok b u q).stay (fun c v hc r => k c v ?_ r) (fun c r => by rw [upd_ne (nown c b r)]; exact r) fun c xs r => by rw [upd_ne (ntup c xs r)]; exact r
      rcases hc with rfl | hc
      · exact hbe
      · rintro rfl
        rcases he with z | z
        · exact nown c b hc z
        · rw [hc] at z; cases z; exact hb rfl
end

/-! ### kept unless tracked; of the frames at fs (the callers') the slots may change (an exception that passes writes there); of the records at ex (iterators) nothing is said -/
structure Un (fs ex : List Addr) (H H' : Hp) (h h' : Heap) : Prop where
  keep : ∀ b o, h.get? b = some o → H b = none → b ∉ fs → b ∉ ex → h'.get? b = some o
  slot : ∀ b o, h.get? b = some o → H b = none → b ∈ fs → b ∉ ex → ∃ sl, h'.get? b = some { o with slots := sl }
  free : ∀ b o, h.get? b = some o → H b = none → b ∉ ex → H' b = none
  there : ∀ b o, h.get? b = some o → b ∉ ex → ∃ o', h'.get? b = some o'
  tups : ∀ b xs, H b = some (.tup xs) → H' b = some (.tup xs)
  frzs : ∀ b o u, H b = some (.frz o u) → H' b = some (.frz o u)
  tbls : ∀ b ps, H b = some (.tbl ps) → ∃ more, H' b = some (.tbl (ps ++ more))
section
variable {fs fs' ex ex' : List Addr} {H H1 H2 : Hp} {h h1 h2 h' : Heap} {a x e : Addr} {o : HO}
theorem Un.any (u : Un fs ex H H1 h h1) {b : Addr} {ob : Obj} (q : h.get? b = some ob) (n : H b = none) (hx : b ∉ ex) : ∃ sl, h1.get? b = some { ob with slots := sl } := by
  by_cases hb : b ∈ fs
  · exact u.slot b ob q n hb hx
  · exact ⟨ob.slots, u.keep b ob q n hb hx⟩
theorem Un.trans (a : Un fs ex H H1 h h1) (b : Un fs ex H1 H2 h1 h2) : Un fs ex H H2 h h2 where
  keep := fun c ob q n hc hx => b.keep c ob (a.keep c ob q n hc hx) (a.free c ob q n hx) hc hx
  slot := fun c ob q n hc hx => by
    obtain ⟨sl, e1⟩ := a.slot c ob q n hc hx
    obtain ⟨sl', e2⟩ := b.slot c _ e1 (a.free c ob q n hx) hc hx
    exact ⟨sl', e2⟩
  free := fun c ob q n hx => by
    obtain ⟨o', e1⟩ := a.there c ob q hx
    exact b.free c o' e1 (a.free c ob q n hx) hx
  there := fun c ob q hx => by
    obtain ⟨o', e1⟩ := a.there c ob q hx
    exact b.there c o' e1 hx
  tups := fun c xs q => b.tups c xs (a.tups c xs q)
  frzs := fun c ob xs q => b.frzs c ob xs (a.frzs c ob xs q)
  tbls := fun c ps q => by
    obtain ⟨m1, e1⟩ := a.tbls c ps q
    obtain ⟨m2, e2⟩ := b.tbls c _ e1
    exact ⟨m1 ++ m2, by rw [e2, Array.append_assoc]⟩
theorem Un.kept (k : ∀ b u, h.get? b = some u → h'.get? b = some u) : Un fs ex H H h h' :=
  ⟨fun b ob q _ _ _ => k b ob q, fun b ob q _ _ _ => ⟨ob.slots, k b ob q⟩, fun _ _ _ n _ => n, fun b ob q _ => ⟨ob, k b ob q⟩, fun _ _ q => q, fun _ _ _ q => q, fun _ ps q => ⟨#[], by rw [q]; simp⟩⟩
theorem Un.refl : Un fs ex H H h h := Un.kept fun _ _ q => q
theorem Un.laid (k : ∀ b u, h.get? b = some u → h'.get? b = some u) (hp : h.objs.size ≤ a) (hn : H a = none) : Un fs ex H (upd H a o) h h' where
  keep := fun b u q _ _ _ => k b u q
  slot := fun b u q _ _ _ => ⟨u.slots, k b u q⟩
  free := fun b u q n _ => by rw [upd_ne (Nat.ne_of_lt (Nat.lt_of_lt_of_le (Heap.lt_size q) hp))]; exact n
  there := fun b u q _ => ⟨u, k b u q⟩
  tups := fun b xs q => by rw [upd_ne (ne_of_none q hn)]; exact q
  frzs := fun b u xs q => by rw [upd_ne (ne_of_none q hn)]; exact q
  tbls := fun b ps q => ⟨#[], by rw [upd_ne (ne_of_none q hn), q]; simp⟩
theorem Un.write (mu : Mut (H x)) (he : e = x ∨ H e = some (.own x)) (k : ∀ b u, b ≠ e → h.get? b = some u → h'.get? b = some u) (heo : ∃ u, h'.get? e = some u) : Un fs ex H (upd H x o) h h' := by
  have hx : ∀ b, H b = none → b ≠ x := fun b n z => by subst z; rw [n] at mu; exact mu
  have hb : ∀ b, H b = none → b ≠ e := fun b n z => by
    subst z
    rcases he with r | r
    · exact hx b n r
    · rw [n] at r; cases r
  have hm : ∀ b u, H b = some u → ¬ Mut (some u) → b ≠ x := fun b u q nm z => by subst z; rw [q] at mu; exact nm mu
  refine ⟨fun b u q n _ _ => k b u (hb b n) q, fun b u q n _ _ => ⟨u.slots, k b u (hb b n) q⟩, fun b u q n _ => by rw [upd_ne (hx b n)]; exact n, fun b u q _ => ?_,
    fun b xs q => by rw [upd_ne (hm b _ q fun z => z)]; exact q, fun b u xs q => by rw [upd_ne (hm b _ q fun z => z)]; exact q, fun b ps q => ⟨#[], by rw [upd_ne (hm b _ q fun z => z), q]; simp⟩⟩
  by_cases hbe : b = e
  · subst hbe; exact heo
  · exact ⟨u, k b u hbe q⟩
end

/-! ### the heap without what is tracked -/
def trk (h : Heap) (H : Hp) : List Addr := (List.range h.objs.size).filter fun a => (H a).isSome
def hidT (h : Heap) (H : Hp) : Heap := PySem.W.hideAll h (trk h H)
theorem hidT_size (h : Heap) (H : Hp) : (hidT h H).objs.size = h.objs.size := PySem.W.hideAll_size _ _
theorem hidT_get {h : Heap} {H : Hp} {b : Addr} {o : Obj} (e : h.get? b = some o) (n : H b = none) : (hidT h H).get? b = some o :=
  PySem.W.hideAll_get _ e fun hm => by
    have q : (H b).isSome = true := (List.mem_filter.mp hm).2
    rw [n] at q; simp at q
theorem of_hidT {h : Heap} {H : Hp} {b : Addr} {o : Obj} (e : (hidT h H).get? b = some o) : h.get? b = some o ∧ H b = none := by
  have e' : h.get? b = some o := PySem.W.of_hideAll (trk h H) e
  refine ⟨e', ?_⟩
  cases q : H b with
  | none => rfl
  | some x =>
    have hm : b ∈ trk h H := List.mem_filter.mpr ⟨List.mem_range.mpr (Heap.lt_size e'), by simp [q]⟩
    have z : (hidT h H).get? b = none := PySem.W.hideAll_none (trk h H) hm
    rw [z] at e; cases e

/-! ### OpenK's ledger, filled with every new object but one -/
def allNews (g h : Heap) (L : Addr) : List (Addr × Obj) := (List.range h.objs.size).filterMap fun a => if a = L ∨ (g.get? a).isSome = true then none else (h.get? a).map fun o => (a, o)
def rest (g h : Heap) (L d : Addr) : List (Addr × Obj) := (allNews g h L).filter fun p => decide (p.1 ≠ d)
end L2

namespace L2
open PySem PySem.Spec PyProof.Rows

/-- the module's facts, over the base: the heap at the law's entry without what is tracked there -/
structure Mod (K : PySem.W.Frag) (mg : Str → Option Value) (base : Heap) : Prop where
  kin : K.In base
  glob : base.Ns mainGlobals mg
  blt : ∃ mb, base.Ns builtinsNs mb ∧ ∀ x : Str, x ≠ "__name__" → mb x = bootBuiltins x
  nolimit : base.NoLimit

/-- the context: a def's body (or a comprehension's block) running. base: fixed through the whole law; s₀, H₀: the entry; outer: the frames whose slots others may change (a def's callers); stack: all frames that run;
   ex: iterators that were made ahead of the entry and are walked here (a comprehension's); fn: the names whose cells were made at the entry (a def: all; a comprehension's block: its own); calm: not within an except suite; pn: pins that every state bears; xe: what is wanted of an exception that leaves the code -/
structure Cx where
  prog : Program
  w : World
  K : PySem.W.Frag
  mg : Str → Option Value
  base : Heap
  A : Around
  N : List Str
  s_0 : Shared
  H_0 : Hp
  env : Env
  outer : List Env
  stack : List Env
  ex : List Addr
  fn : Str → Bool
  calm : Bool
  pn : List (Addr × Obj)
  xe : Value → Shared → Prop
/-- the callers' frames -/
def frs (l : List Env) : List Addr := l.filterMap (·.frame)
abbrev Cx.fs (X : Cx) : List Addr := frs X.outer

def Vis (sc : Scope) (x : Str) : Prop := sc.names.lookup x = some .local ∨ sc.names.lookup x = some .cell ∨ sc.names.lookup x = some .free
def Loc (sc : Scope) (x : Str) : Prop := sc.names.lookup x = some .local ∨ sc.names.lookup x = some .cell
def Look (env : Env) (h : Heap) (m : Str → Option Value) (x : Str) (u : Value) : Prop :=
  (env.kindOf x = some .local ∧ m x = some u) ∨ ((env.kindOf x = some .cell ∨ env.kindOf x = some .free) ∧ ∃ c, env.cells.lookup x = some c ∧ h.IsCell c (some u))

structure Cx.Ok (X : Cx) : Prop where
  mod : Mod X.K X.mg X.base
  kind : X.env.scope.kind = .function
  glob : X.env.globals = mainGlobals
  blt : X.env.builtins = builtinsNs
  above : X.s_0.heap.objs.size ≤ X.env.locals
  inj : ∀ x y c, X.env.cells.lookup x = some c → X.env.cells.lookup y = some c → x = y
  has : ∀ x, (X.env.kindOf x = some .cell ∨ X.env.kindOf x = some .free) → ∃ c, X.env.cells.lookup x = some c
  cab : ∀ x c, X.fn x = true → X.env.cells.lookup x = some c → X.s_0.heap.objs.size ≤ c
  hd : X.calm = true → X.A.handled = none
  frames : X.A.frames = some X.stack
  stk : X.stack = X.outer ∨ (X.stack = X.env :: X.outer ∧ X.env.frame = some X.env.locals)
  exf : ∀ b ∈ X.ex, b ≠ X.env.locals ∧ ∀ x c, X.env.cells.lookup x = some c → c ≠ b
  bs : ∀ b o, X.base.get? b = some o → X.s_0.heap.get? b = some o ∧ X.H_0 b = none
  bsz : X.base.objs.size ≤ X.s_0.heap.objs.size
  noex : ∀ b o, X.base.get? b = some o → b ∉ X.ex
  exfs : ∀ b ∈ X.ex, b ∉ X.fs
  funs : X.s_0.heap.FunFrames X.base X.outer
  frf : ∀ b ∈ X.fs, X.H_0 b = none

structure Inv (X : Cx) (pins : List (Addr × Obj)) (σ : List (Option V)) (H : Hp) (s : Shared) : Prop where
  ok : X.Ok
  os : s.os = X.s_0.os
  bare : AllBare s.gens
  base : Un X.fs X.ex X.H_0 H X.s_0.heap s.heap
  loc : ∃ m, s.heap.Ns X.env.locals m ∧ ∀ (i : Nat) (x : Str) (v : V), X.N[i]? = some x → σ[i]? = some (some v) → Vis X.env.scope x → ∃ u, RelV v u ∧ Look X.env s.heap m x u
  cell : ∀ x c, X.env.cells.lookup x = some c → ∃ v, s.heap.IsCell c v
  free : H X.env.locals = none
  freeC : ∀ x c, X.env.cells.lookup x = some c → H c = none
  pin : ∀ p ∈ X.pn ++ pins, s.heap.get? p.1 = some p.2 ∧ H p.1 = none ∧ p.1 ≠ X.env.locals ∧ p.1 ∉ X.fs ∧ ∀ v, p.2.data ≠ .cell v
  hok : HOk X.prog X.w H s.heap
  len : σ.length = X.N.length

section
variable {X : Cx} {pins : List (Addr × Obj)} {σ : List (Option V)} {H H' : Hp} {s : Shared} {h' : Heap}

theorem Cx.Ok.nofr (ok : X.Ok) {b : Addr} {o : Obj} (e : X.base.get? b = some o) : b ∉ X.fs := fun hb => by
  have := (ok.funs.mem hb).1
  rw [e] at this; cases this
theorem Inv.bs (I : Inv X pins σ H s) : ∀ b o, X.base.get? b = some o → s.heap.get? b = some o ∧ H b = none := fun b o e =>
  ⟨I.base.keep b o (I.ok.bs b o e).1 (I.ok.bs b o e).2 (I.ok.nofr e) (I.ok.noex b o e), I.base.free b o (I.ok.bs b o e).1 (I.ok.bs b o e).2 (I.ok.noex b o e)⟩
theorem Inv.bk (I : Inv X pins σ H s) : ∀ b o, X.base.get? b = some o → s.heap.get? b = some o := fun b o e => (I.bs b o e).1
theorem Inv.mod (I : Inv X pins σ H s) : Mod X.K X.mg X.base := I.ok.mod
theorem Inv.kIn (I : Inv X pins σ H s) : X.K.In s.heap := I.ok.mod.kin.keeps I.bk
theorem Inv.lt (I : Inv X pins σ H s) : X.env.locals < s.heap.objs.size := let ⟨_, hn, _⟩ := I.loc; hn.lt
theorem Inv.sz (I : Inv X pins σ H s) : X.s_0.heap.objs.size ≤ s.heap.objs.size := Nat.le_trans I.ok.above (Nat.le_of_lt I.lt)
theorem Inv.nofs (I : Inv X pins σ H s) {a : Addr} (h : s.heap.objs.size ≤ a) : a ∉ X.fs := fun hb => by
  obtain ⟨_, o, ho, _⟩ := I.ok.funs.mem hb
  exact absurd (Nat.lt_of_lt_of_le (Heap.lt_size ho) (Nat.le_trans I.sz h)) (Nat.lt_irrefl _)
theorem Inv.cne (I : Inv X pins σ H s) : ∀ x c, X.env.cells.lookup x = some c → c ≠ X.env.locals := fun x c e z => by
  obtain ⟨v, o, ho, hd⟩ := I.cell x c e
  obtain ⟨m, ⟨o', es, ep, ho', hd', _⟩, _⟩ := I.loc
  rw [z, ho'] at ho; cases ho; rw [hd'] at hd; cases hd
theorem Inv.funs (I : Inv X pins σ H s) : s.heap.FunFrames X.base X.outer := by
  have all : ∀ (l : List Env), (∀ b ∈ frs l, b ∈ X.fs) → X.s_0.heap.FunFrames X.base l → s.heap.FunFrames X.base l := by
    intro l
    induction l with
    | nil => intro _ _; trivial
    | cons env r ih =>
      intro hs hl
      obtain ⟨hk, ⟨L, o, hf, hn, ho, hd⟩, hr⟩ := hl
      have hL : L ∈ X.fs := hs L (by unfold frs; rw [List.filterMap_cons, hf]; exact List.mem_cons_self)
      obtain ⟨sl, e⟩ := I.base.slot L o ho (I.ok.frf L hL) hL fun z => I.ok.exfs L z hL
      exact ⟨hk, ⟨L, _, hf, hn, e, hd⟩, ih (fun b hb => hs b (by unfold frs; rw [List.filterMap_cons, hf]; exact List.mem_cons_of_mem _ hb)) hr⟩
  exact all X.outer (fun _ hb => hb) I.ok.funs

/-- the frames that run, for a call -/
theorem Inv.stack (I : Inv X pins σ H s) : s.heap.FunFrames X.base X.stack := by
  rcases I.ok.stk with e | ⟨e, hf⟩
  · rw [e]; exact I.funs
  · rw [e]
    obtain ⟨m, hn, _⟩ := I.loc
    refine .cons (by rw [I.ok.kind]; decide) hf hn ?_ I.funs
    exact Heap.get?_none_of_le (Nat.le_trans I.ok.bsz I.ok.above)
theorem Inv.stkSub (I : Inv X pins σ H s) : ∀ b ∈ frs X.stack, b ∈ X.env.locals :: X.fs := fun b hb => by
  rcases I.ok.stk with e | ⟨e, hf⟩
  · rw [e] at hb; exact List.mem_cons_of_mem _ hb
  · rw [e] at hb
    unfold frs at hb
    rw [List.filterMap_cons, hf] at hb
    exact hb
theorem Inv.stkFree (I : Inv X pins σ H s) : ∀ b ∈ frs X.stack, H b = none := fun b hb => by
  rcases List.mem_cons.mp (I.stkSub b hb) with e | hb
  · rw [e]; exact I.free
  · obtain ⟨_, o, ho, _⟩ := I.ok.funs.mem hb
    exact I.base.free b o ho (I.ok.frf b hb) fun z => I.ok.exfs b z hb

/-- THE STEP: the untracked objects but the frame and the records at ch are kept (the callers' frames up to slots), the frame's map is kept, the new abstract heap is held -/
theorem Inv.step {g' : Array GenState} {t' : Nat} {d' : Drawn} {ch : List Addr} (I : Inv X pins σ H s)
    (hch : ∀ b ∈ ch, (b ∈ X.ex ∨ X.s_0.heap.objs.size ≤ b) ∧ b ≠ X.env.locals ∧ (∀ x c, X.env.cells.lookup x = some c → c ≠ b) ∧ ∀ p ∈ X.pn ++ pins, p.1 ≠ b)
    (keep : ∀ b o, b ≠ X.env.locals → b ∉ X.fs → b ∉ ch → s.heap.get? b = some o → H b = none → h'.get? b = some o)
    (slot : ∀ b o, b ≠ X.env.locals → b ∈ X.fs → b ∉ ch → s.heap.get? b = some o → H b = none → ∃ sl, h'.get? b = some { o with slots := sl }) (free : ∀ b o, b ∉ ch → s.heap.get? b = some o → H b = none → H' b = none)
    (there : ∀ b o, b ∉ ch → s.heap.get? b = some o → ∃ o', h'.get? b = some o')
    (tups : ∀ b xs, H b = some (.tup xs) → H' b = some (.tup xs)) (frzs : ∀ b o u, H b = some (.frz o u) → H' b = some (.frz o u)) (tbls : ∀ b ps, H b = some (.tbl ps) → ∃ more, H' b = some (.tbl (ps ++ more)))
    (ns : ∀ m, s.heap.Ns X.env.locals m → h'.Ns X.env.locals m) (hok : HOk X.prog X.w H' h') (hg : AllBare g') :
    Inv X pins σ H' { s with heap := h', gens := g', drawn := d', toks := t' } := by
  have neL : ∀ b o, X.s_0.heap.get? b = some o → b ≠ X.env.locals := fun b o e => Nat.ne_of_lt (Nat.lt_of_lt_of_le (Heap.lt_size e) I.ok.above)
  have neC : ∀ b o, X.s_0.heap.get? b = some o → b ∉ X.ex → b ∉ ch := fun b o e hx hb => by
    rcases (hch b hb).1 with z | z
    · exact hx z
    · exact absurd (Nat.lt_of_lt_of_le (Heap.lt_size e) z) (Nat.lt_irrefl _)
  have cellK : ∀ x c, X.env.cells.lookup x = some c → ∀ v, s.heap.IsCell c v → h'.IsCell c v := fun x c e v ⟨o, ho, hd⟩ => by
    have nch : c ∉ ch := fun z => (hch c z).2.2.1 x c e rfl
    by_cases hc : c ∈ X.fs
    · obtain ⟨sl, q⟩ := slot c o (I.cne x c e) hc nch ho (I.freeC x c e)
      exact ⟨_, q, hd⟩
    · exact ⟨o, keep c o (I.cne x c e) hc nch ho (I.freeC x c e), hd⟩
  refine ⟨I.ok, I.os, hg, ⟨fun b o e n hb hx => ?_, fun b o e n hb hx => ?_, fun b o e n hx => ?_, fun b o e hx => ?_, fun b xs e => tups b xs (I.base.tups b xs e), fun b o xs e => frzs b o xs (I.base.frzs b o xs e), fun b ps e => ?_⟩, ?_, fun x c e => ?_, ?_, fun x c e => ?_, fun p hp => ?_, hok, I.len⟩
  · exact keep b o (neL b o e) hb (neC b o e hx) (I.base.keep b o e n hb hx) (I.base.free b o e n hx)
  · obtain ⟨sl, e1⟩ := I.base.slot b o e n hb hx
    obtain ⟨sl', e2⟩ := slot b _ (neL b o e) hb (neC b o e hx) e1 (I.base.free b o e n hx)
    exact ⟨sl', e2⟩
  · obtain ⟨o', e1⟩ := I.base.there b o e hx
    exact free b o' (neC b o e hx) e1 (I.base.free b o e n hx)
  · obtain ⟨o', e1⟩ := I.base.there b o e hx
    exact there b o' (neC b o e hx) e1
  · obtain ⟨m1, e1⟩ := I.base.tbls b ps e
    obtain ⟨m2, e2⟩ := tbls b _ e1
    exact ⟨m1 ++ m2, by rw [e2, Array.append_assoc]⟩
  · obtain ⟨m, hn, hl⟩ := I.loc
    refine ⟨m, ns m hn, fun i x v e1 e2 e3 => ?_⟩
    obtain ⟨u, r, l⟩ := hl i x v e1 e2 e3
    refine ⟨u, r, ?_⟩
    rcases l with l | ⟨k, c, e, z⟩
    · exact .inl l
    · exact .inr ⟨k, c, e, cellK x c e _ z⟩
  · obtain ⟨v, z⟩ := I.cell x c e
    exact ⟨v, cellK x c e v z⟩
  · obtain ⟨m, ⟨o, _, _, ho, _⟩, _⟩ := I.loc
    exact free _ o (fun z => (hch _ z).2.1 rfl) ho I.free
  · obtain ⟨v, o, ho, hd⟩ := I.cell x c e
    exact free c o (fun z => (hch c z).2.2.1 x c e rfl) ho (I.freeC x c e)
  · obtain ⟨e, n, ne, nf, d⟩ := I.pin p hp
    have nch : p.1 ∉ ch := fun z => (hch p.1 z).2.2.2 p hp rfl
    exact ⟨keep p.1 p.2 ne nf nch e n, free p.1 p.2 nch e n, ne, nf, d⟩
/-- .. where the frame's own object is kept too -/
theorem Inv.un {t' : Nat} (I : Inv X pins σ H s) (u : Un X.fs [] H H' s.heap h') (hok : HOk X.prog X.w H' h') : Inv X pins σ H' { s with heap := h', toks := t' } := by
  obtain ⟨m, ⟨o, es, ep, ho, r⟩, _⟩ := id I.loc
  obtain ⟨sl, hL⟩ := u.any ho I.free (by simp)
  exact I.step (g' := s.gens) (d' := s.drawn) (ch := []) (fun _ z => nomatch z) (fun b o _ hb _ e n => u.keep b o e n hb (by simp)) (fun b o _ hb _ e n => u.slot b o e n hb (by simp)) (fun b o _ e n => u.free b o e n (by simp)) (fun b o _ e => u.there b o e (by simp)) u.tups u.frzs u.tbls (fun m' hm => by
    obtain ⟨o', es', ep', ho', r'⟩ := hm
    rw [ho] at ho'; cases ho'
    exact ⟨_, es', ep', hL, r'⟩) hok I.bare
/-- behind a call (or a comprehension's block): the slots of this frame may have changed too, the records at ch may have turned -/
theorem Inv.call {g' : Array GenState} {t' : Nat} {d' : Drawn} {ch : List Addr} (I : Inv X pins σ H s) (u : Un (frs X.stack) ch H H' s.heap h') (hok : HOk X.prog X.w H' h') (hg : AllBare g')
    (hch : ∀ b ∈ ch, (b ∈ X.ex ∨ X.s_0.heap.objs.size ≤ b) ∧ b ≠ X.env.locals ∧ (∀ x c, X.env.cells.lookup x = some c → c ≠ b) ∧ ∀ p ∈ X.pn ++ pins, p.1 ≠ b) :
    Inv X pins σ H' { s with heap := h', gens := g', drawn := d', toks := t' } := by
  obtain ⟨m, ⟨o, es, ep, ho, r⟩, _⟩ := id I.loc
  obtain ⟨sl, hL⟩ := u.any ho I.free fun z => (hch _ z).2.1 rfl
  exact I.step (ch := ch) hch (fun b o hL hb hc e n => u.keep b o e n (fun z => (List.mem_cons.mp (I.stkSub b z)).elim hL hb) hc) (fun b o _ _ hc e n => u.any e n hc) (fun b o hc e n => u.free b o e n hc) (fun b o hc e => u.there b o e hc) u.tups u.frzs u.tbls (fun m' hm => by
    obtain ⟨o', es', ep', ho', r'⟩ := hm
    rw [ho] at ho'; cases ho'
    exact ⟨_, es', ep', hL, r'⟩) hok hg
/-- an untracked record of ours (an iterator) has turned -/
theorem Inv.turned {t' : Nat} {it : Addr} (I : Inv X pins σ H s) (k : ∀ b o, b ≠ it → s.heap.get? b = some o → h'.get? b = some o) (hn : H it = none) (hL : it ≠ X.env.locals)
    (h1 : it ∈ X.ex ∨ X.s_0.heap.objs.size ≤ it) (h2 : ∀ x c, X.env.cells.lookup x = some c → c ≠ it) (h3 : ∀ p ∈ X.pn ++ pins, p.1 ≠ it) : Inv X pins σ H { s with heap := h', toks := t' } := by
  have nit : ∀ b u, H b = some u → b ≠ it := fun b u e z => by rw [z, hn] at e; cases e
  refine I.step (g' := s.gens) (d' := s.drawn) (ch := [it]) (fun b hb => ?_) (fun b o _ _ hc e _ => k b o (fun z => hc (by simp [z])) e) (fun b o _ _ hc e _ => ⟨o.slots, k b o (fun z => hc (by simp [z])) e⟩) (fun _ _ _ _ n => n)
    (fun b o hc e => ⟨o, k b o (fun z => hc (by simp [z])) e⟩) (fun _ _ e => e) (fun _ _ _ e => e) (fun b ps e => ⟨#[], by rw [e]; simp⟩) (fun m hm => ?_) (fun b u e => ?_) I.bare
  · have e : b = it := by simpa using hb
    subst e
    exact ⟨h1, hL, h2, h3⟩
  · obtain ⟨o, es, ep, ho, r⟩ := hm
    exact ⟨o, es, ep, k _ o (Ne.symm hL) ho, r⟩
  · refine (I.hok b u e).stay (fun c v hc q => k c v ?_ q) (fun _ q => q) fun _ _ q => q
    rcases hc with z | z
    · rw [z]; exact nit b u e
    · exact nit c _ z
theorem Inv.tok (I : Inv X pins σ H s) (t : Nat) : Inv X pins σ H { s with toks := t } := I.un (h' := s.heap) (t' := t) Un.refl I.hok
/-- all objects kept -/
theorem Inv.kept {t' : Nat} (I : Inv X pins σ H s) (k : ∀ b u, s.heap.get? b = some u → h'.get? b = some u) : Inv X pins σ H { s with heap := h', toks := t' } := I.un (Un.kept k) (I.hok.kept k)
/-- a new object laid and tracked -/
theorem Inv.laid {a : Addr} {o : HO} {t' : Nat} (I : Inv X pins σ H s) (k : ∀ b u, s.heap.get? b = some u → h'.get? b = some u) (hp : s.heap.objs.size ≤ a) (new : ObjOk X.prog X.w (upd H a o) h' a o) :
    Inv X pins σ (upd H a o) { s with heap := h', toks := t' } := I.un (Un.laid k hp (I.hok.fresh hp)) (I.hok.laid k hp new)
/-- an object written -/
theorem Inv.write {x e : Addr} {o : HO} {t' : Nat} (I : Inv X pins σ H s) (mu : Mut (H x)) (he : e = x ∨ H e = some (.own x)) (k : ∀ b u, b ≠ e → s.heap.get? b = some u → h'.get? b = some u) (heo : ∃ u, h'.get? e = some u)
    (new : ObjOk X.prog X.w (upd H x o) h' x o) : Inv X pins σ (upd H x o) { s with heap := h', toks := t' } := I.un (Un.write mu he k heo) (I.hok.write mu he k heo new)
/-- forgetting slots, pins -/
theorem Inv.weak {σ' : List (Option V)} (I : Inv X pins σ H s) (hl : σ'.length = σ.length) (w : ∀ (i : Nat) v, σ'[i]? = some (some v) → σ[i]? = some (some v)) : Inv X pins σ' H s :=
  ⟨I.ok, I.os, I.bare, I.base, let ⟨m, hn, hl'⟩ := I.loc; ⟨m, hn, fun i x v e1 e2 e3 => hl' i x v e1 (w i v e2) e3⟩, I.cell, I.free, I.freeC, I.pin, I.hok, hl.trans I.len⟩
theorem Inv.pins_of {pins' : List (Addr × Obj)} (I : Inv X pins σ H s) (h : ∀ p ∈ pins', s.heap.get? p.1 = some p.2 ∧ H p.1 = none ∧ p.1 ≠ X.env.locals ∧ p.1 ∉ X.fs ∧ ∀ v, p.2.data ≠ .cell v) : Inv X pins' σ H s :=
  ⟨I.ok, I.os, I.bare, I.base, I.loc, I.cell, I.free, I.freeC, fun p hp => (List.mem_append.mp hp).elim (fun z => I.pin p (List.mem_append_left _ z)) (h p), I.hok, I.len⟩

theorem nodup_ix {N : List Str} (hN : N.Nodup) {i j : Nat} {x : Str} (a : N[i]? = some x) (b : N[j]? = some x) : i = j := by
  obtain ⟨h1, e1⟩ := List.getElem?_eq_some_iff.mp a
  obtain ⟨h2, e2⟩ := List.getElem?_eq_some_iff.mp b
  exact (List.getElem_inj hN).mp (e1.trans e2.symm)

/-- a name is stored; what changed -/
theorem store_ok2 {M : Model} {A : Around} {E : Value → Shared → Prop} {i : Nat} {x : Str} {v : V} {u : Value} {Q : Unit → Shared → Prop} (I : Inv X pins σ H s) (hN : X.N.Nodup) (hi : X.N[i]? = some x) (hx : Loc X.env.scope x) (r : RelV v u)
    (h : ∀ s', Inv X pins (σ.set i (some v)) H s' → (∃ a, Heap.SameBut a s.heap s'.heap ∧ (a = X.env.locals ∨ X.env.cells.lookup x = some a)) → Q () s') (hf : X.fn x = true ∨ X.env.scope.names.lookup x = some .local := by first | exact .inl rfl | exact .inr rfl | assumption) : wpAny M A (storeName X.env x u) Q E s := by
  obtain ⟨m, hn, hl⟩ := id I.loc
  have hcls : (X.env.scope.kind == .class || (X.env.scope.kind == .module && X.env.locals != X.env.globals)) = false := by rw [I.ok.kind]; rfl
  have hiσ : i < σ.length := by rw [I.len]; exact (List.getElem?_eq_some_iff.mp hi).1
  have cne := I.cne
  have tracked : ∀ {a : Addr} {h' : Heap}, (∃ o, s.heap.get? a = some o ∧ H a = none) → Heap.SameBut a s.heap h' → HOk X.prog X.w H h' := fun {a h'} ha hs b ob e => by
    obtain ⟨_, _, hfree⟩ := ha
    refine (I.hok b ob e).stay (fun c w' hc q => (hs.2 c ?_).trans q) (fun _ q => q) fun _ _ q => q
    rintro rfl
    rcases hc with rfl | hc
    · rw [hfree] at e; cases e
    · rw [hfree] at hc; cases hc
  rcases hx with hk | hk
  · refine wpAny_storeName_local hk hn (fun h' hn' hs => ?_) hcls
    obtain ⟨oL, _, _, hoL, _⟩ := id hn
    refine h _ ⟨I.ok, I.os, I.bare, ⟨fun b o e n hb hx => ?_, fun b o e n hb hx => ?_, I.base.free, fun b o e hx => ?_, I.base.tups, I.base.frzs, I.base.tbls⟩, ⟨_, hn', fun j y v' e1 e2 e3 => ?_⟩, fun y c e => ?_, I.free, I.freeC, fun p hp => ?_, tracked ⟨oL, hoL, I.free⟩ hs, by simpa using I.len⟩ ⟨_, hs, .inl rfl⟩
    · exact (hs.2 b (Nat.ne_of_lt (Nat.lt_of_lt_of_le (Heap.lt_size e) I.ok.above))).trans (I.base.keep b o e n hb hx)
    · obtain ⟨sl, e1⟩ := I.base.slot b o e n hb hx
      exact ⟨sl, (hs.2 b (Nat.ne_of_lt (Nat.lt_of_lt_of_le (Heap.lt_size e) I.ok.above))).trans e1⟩
    · obtain ⟨o', e1⟩ := I.base.there b o e hx
      exact ⟨o', (hs.2 b (Nat.ne_of_lt (Nat.lt_of_lt_of_le (Heap.lt_size e) I.ok.above))).trans e1⟩
    · by_cases hj : j = i
      · subst hj
        rw [hi] at e1; cases e1
        rw [List.getElem?_set_self hiσ] at e2
        cases e2
        exact ⟨u, r, .inl ⟨hk, by simp⟩⟩
      · rw [List.getElem?_set_ne (Ne.symm hj)] at e2
        obtain ⟨u', r', q⟩ := hl j y v' e1 e2 e3
        refine ⟨u', r', ?_⟩
        rcases q with ⟨k, e⟩ | ⟨k, c, e, z⟩
        · refine .inl ⟨k, ?_⟩
          have : y ≠ x := fun e => hj (nodup_ix hN e1 (e ▸ hi))
          simp [this, e]
        · exact .inr ⟨k, c, e, z.sameBut hs (cne y c e)⟩
    · obtain ⟨w', z⟩ := I.cell y c e
      exact ⟨w', z.sameBut hs (cne y c e)⟩
    · obtain ⟨e, n, ne, nf, d⟩ := I.pin p hp
      exact ⟨(hs.2 p.1 ne).trans e, n, ne, nf, d⟩
  · have hfn : X.fn x = true := by
      rcases hf with z | z
      · exact z
      · rw [z] at hk; cases hk
    obtain ⟨c, hc⟩ := I.ok.has x (.inl hk)
    obtain ⟨w', z⟩ := I.cell x c hc
    refine wpAny_storeName_cell I.ok.kind hk hc z (fun h' hc' hs => ?_)
    obtain ⟨oc, hoc, hocd⟩ := id z
    refine h { s with heap := h' } ⟨I.ok, I.os, I.bare, ⟨fun b o e n hb hx => ?_, fun b o e n hb hx => ?_, I.base.free, fun b o e hx => ?_, I.base.tups, I.base.frzs, I.base.tbls⟩, ⟨m, hn.sameBut hs (Ne.symm (cne x c hc)), fun j y v' e1 e2 e3 => ?_⟩, fun y c' e => ?_, I.free, I.freeC, fun p hp => ?_, tracked ⟨oc, hoc, I.freeC x c hc⟩ hs, by simpa using I.len⟩ ⟨c, hs, .inr hc⟩
    · exact (hs.2 b (Nat.ne_of_lt (Nat.lt_of_lt_of_le (Heap.lt_size e) (I.ok.cab x c hfn hc)))).trans (I.base.keep b o e n hb hx)
    · obtain ⟨sl, e1⟩ := I.base.slot b o e n hb hx
      exact ⟨sl, (hs.2 b (Nat.ne_of_lt (Nat.lt_of_lt_of_le (Heap.lt_size e) (I.ok.cab x c hfn hc)))).trans e1⟩
    · obtain ⟨o', e1⟩ := I.base.there b o e hx
      exact ⟨o', (hs.2 b (Nat.ne_of_lt (Nat.lt_of_lt_of_le (Heap.lt_size e) (I.ok.cab x c hfn hc)))).trans e1⟩
    · by_cases hj : j = i
      · subst hj
        rw [hi] at e1; cases e1
        rw [List.getElem?_set_self hiσ] at e2
        cases e2
        exact ⟨u, r, .inr ⟨.inl hk, c, hc, hc'⟩⟩
      · rw [List.getElem?_set_ne (Ne.symm hj)] at e2
        obtain ⟨u', r', q⟩ := hl j y v' e1 e2 e3
        refine ⟨u', r', ?_⟩
        rcases q with q | ⟨k, c', e, z'⟩
        · exact .inl q
        · refine .inr ⟨k, c', e, z'.sameBut hs ?_⟩
          rintro rfl
          exact hj (nodup_ix hN e1 (I.ok.inj _ _ _ e hc ▸ hi))
    · by_cases hcc : c' = c
      · subst hcc; exact ⟨_, hc'⟩
      · obtain ⟨w2, z2⟩ := I.cell y c' e
        exact ⟨w2, z2.sameBut hs hcc⟩
    · obtain ⟨e, n, ne, nf, d⟩ := I.pin p hp
      refine ⟨(hs.2 p.1 ?_).trans e, n, ne, nf, d⟩
      intro q
      rw [q, hoc] at e
      have q' : oc = p.2 := Option.some.inj e
      exact d w' (by rw [← q']; exact hocd)
theorem store_ok {M : Model} {A : Around} {E : Value → Shared → Prop} {i : Nat} {x : Str} {v : V} {u : Value} {Q : Unit → Shared → Prop} (I : Inv X pins σ H s) (hN : X.N.Nodup) (hi : X.N[i]? = some x) (hx : Loc X.env.scope x) (r : RelV v u)
    (h : ∀ s', Inv X pins (σ.set i (some v)) H s' → Q () s') (hf : X.fn x = true ∨ X.env.scope.names.lookup x = some .local := by first | exact .inl rfl | exact .inr rfl | assumption) : wpAny M A (storeName X.env x u) Q E s :=
  store_ok2 I hN hi hx r (fun s' I' _ => h s' I') hf
/-- behind a call or a block, the state as it is -/
theorem Inv.call' {s' : Shared} {ch : List Addr} (I : Inv X pins σ H s) (ho : s'.os = s.os) (u : Un (frs X.stack) ch H H' s.heap s'.heap) (hok : HOk X.prog X.w H' s'.heap) (hg : AllBare s'.gens)
    (hch : ∀ b ∈ ch, (b ∈ X.ex ∨ X.s_0.heap.objs.size ≤ b) ∧ b ≠ X.env.locals ∧ (∀ x c, X.env.cells.lookup x = some c → c ≠ b) ∧ ∀ p ∈ X.pn ++ pins, p.1 ≠ b) : Inv X pins σ H' s' := by
  obtain ⟨h', g', d', t', o'⟩ := s'
  have e : o' = s.os := ho
  subst e
  exact I.call (g' := g') (t' := t') (d' := d') u hok hg hch
end

/-! ### the judgements -/
/-- an exception: its class, its own dict's address (where it has one), the abstract heap behind it -/
abbrev XK := Value → Option Addr → Hp → Prop
abbrev St := List (Option V)
abbrev VK := V → Hp → Prop
/-- an expression's reading; a test's; an argument list's -/
abbrev TE := St → Hp → VK → Prop
abbrev TT := St → Hp → (Bool → Hp → Prop) → Prop
abbrev TA := St → Hp → (List V → Hp → Prop) → Prop
/-- what is wanted behind a statement -/
structure Ends where
  nx : St → Hp → Prop
  rt : VK
  bk : St → Hp → Prop := fun _ _ => False
  ct : St → Hp → Prop := fun _ _ => False
abbrev TS := Ends → St → Hp → Prop

def EP (X : Cx) (pins : List (Addr × Obj)) (σ : St) (Q : VK) (u : Value) (s' : Shared) : Prop := ∃ v H', Inv X pins σ H' s' ∧ RelV v u ∧ Q v H'
def TP (X : Cx) (pins : List (Addr × Obj)) (σ : St) (Q : Bool → Hp → Prop) (b : Bool) (s' : Shared) : Prop := ∃ H', Inv X pins σ H' s' ∧ Q b H'
def AP (X : Cx) (pins : List (Addr × Obj)) (σ : St) (Q : List V → Hp → Prop) (us : List Value) (s' : Shared) : Prop := ∃ vs H', Inv X pins σ H' s' ∧ Vals vs us ∧ Q vs H'
def SP (X : Cx) (pins : List (Addr × Obj)) (D : Ends) (f : Flow) (s' : Shared) : Prop :=
  match f with
  | .next => ∃ σ' H', Inv X pins σ' H' s' ∧ D.nx σ' H'
  | .brk => ∃ σ' H', Inv X pins σ' H' s' ∧ D.bk σ' H'
  | .cont => ∃ σ' H', Inv X pins σ' H' s' ∧ D.ct σ' H'
  | .ret u => ∃ v σ' H', Inv X pins σ' H' s' ∧ RelV v u ∧ D.rt v H'

def PE (X : Cx) (e : Expr) (t : TE) : Prop :=
  ∀ (pins : List (Addr × Obj)) (s : Shared) (σ : St) (H : Hp) (Q : VK), Inv X pins σ H s → t σ H Q → wpAny (model X.prog X.w) X.A (eval e X.env) (EP X pins σ Q) X.xe s
def PT (X : Cx) (e : Expr) (t : TT) : Prop :=
  ∀ (pins : List (Addr × Obj)) (s : Shared) (σ : St) (H : Hp) (Q : Bool → Hp → Prop), Inv X pins σ H s → t σ H Q → wpAny (model X.prog X.w) X.A (isTrue e X.env (eval e X.env)) (TP X pins σ Q) X.xe s
/-- a test whatever its 'whole' is (and, or) -/
def PW (X : Cx) (e : Expr) (t : TT) : Prop :=
  ∀ (whole : Sem Value) (pins : List (Addr × Obj)) (s : Shared) (σ : St) (H : Hp) (Q : Bool → Hp → Prop), Inv X pins σ H s → t σ H Q → wpAny (model X.prog X.w) X.A (isTrue e X.env whole) (TP X pins σ Q) X.xe s
theorem PW.pt {X : Cx} {e : Expr} {t : TT} (h : PW X e t) : PT X e t := h _
/-- an argument list (no star), from the left -/
def PA (X : Cx) (es : List Expr) (t : TA) : Prop :=
  ∀ (pos : Pos) (pins : List (Addr × Obj)) (s : Shared) (σ : St) (H : Hp) (Q : List V → Hp → Prop), Inv X pins σ H s → t σ H Q → wpAny (model X.prog X.w) X.A (spliced (backTo pos (starEach es X.env))) (AP X pins σ Q) X.xe s
def PS (X : Cx) (st : Stmt) (t : TS) : Prop :=
  ∀ (pins : List (Addr × Obj)) (s : Shared) (σ : St) (H : Hp) (D : Ends), Inv X pins σ H s → t D σ H → wpAny (model X.prog X.w) X.A (exec st X.env) (SP X pins D) X.xe s
def PSs (X : Cx) (st : List Stmt) (t : TS) : Prop :=
  ∀ (pins : List (Addr × Obj)) (s : Shared) (σ : St) (H : Hp) (D : Ends), Inv X pins σ H s → t D σ H → wpAny (model X.prog X.w) X.A (execs st X.env) (SP X pins D) X.xe s
/-- weaken the end -/
theorem thn {α : Type} {t : Sem α} {Q Q' : α → Shared → Prop} {M : Model} {A : Around} {E : Value → Shared → Prop} {s : Shared} (h : wpAny M A t Q E s) (hQ : ∀ a s, Q a s → Q' a s) : wpAny M A t Q' E s := wpAny_mono h hQ fun _ _ x => x
end L2

namespace L2
open PySem PySem.Spec PyProof.Rows
section
variable {X : Cx}

/-! ### names and constants -/
def tVar (i : Nat) : TE := fun σ H Q => ∃ v, σ[i]? = some (some v) ∧ Q v H
def tC (v : V) : TE := fun _ H Q => Q v H
theorem pe_var {i : Nat} {x : Str} {pos : Pos} (hN : X.N[i]? = some x) (hv : Vis X.env.scope x) (hd : (x == ("__debug__" : Str)) = false := by decide) (hcd : (x == ("__classdict__" : Str)) = false := by decide) : PE X (.Name x pos) (tVar i) := by
  intro pins s σ H Q I h
  obtain ⟨v, e, h⟩ := h
  obtain ⟨m, hn, hl⟩ := I.loc
  obtain ⟨u, r, l⟩ := hl i x v hN e hv
  have fin : EP X pins σ Q u s := ⟨v, H, I, r, h⟩
  rcases l with ⟨hk, hm⟩ | ⟨hk, c, hc, hcell⟩
  · exact wpAny_Name (wpAny_loadName_local I.ok.kind hk hn hm fin) hd
  · rcases hk with hk | hk
    · exact wpAny_Name (wpAny_loadName_cell I.ok.kind hk hc hcell fin) hd
    · exact wpAny_Name (wpAny_loadName_free I.ok.kind hk hc hcell fin hcd) hd
theorem pe_int {i j pos} : PE X (.Constant (.int i) j pos) (tC (.int i)) := fun _ _ _ H _ I h => wpAny_Constant_int ⟨.int i, H, I.tok _, ⟨_, rfl⟩, h⟩
theorem pe_bl {b j pos} : PE X (.Constant (.bool b) j pos) (tC (.bl b)) := fun _ _ _ H _ I h => Constant_bool ⟨.bl b, H, I, rfl, h⟩
theorem pe_non {j pos} : PE X (.Constant .none j pos) (tC .non) := fun _ _ _ H _ I h => Constant_none ⟨.non, H, I, rfl, h⟩
theorem pe_str {x j pos} : PE X (.Constant (.str x) j pos) (tC (.str x)) := fun _ _ _ H _ I h => Calls.Constant_str ⟨.str x, H, I.tok _, ⟨_, rfl⟩, h⟩

/-- a global name of the def -/
def Gl (X : Cx) (x : Str) : Prop := X.env.kindOf x = some .globalImplicit
theorem ld_glob {E : Value → Shared → Prop} {pins : List (Addr × Obj)} {s : Shared} {σ : St} {H : Hp} {x : Str} {u : Value} {pos : Pos} {Q : Value → Shared → Prop} (I : Inv X pins σ H s) (hg : Gl X x) (hm : X.mg x = some u) (h : Q u s)
    (hd : (x == ("__debug__" : Str)) = false := by decide) : wpAny (model X.prog X.w) X.A (eval (.Name x pos) X.env) Q E s :=
  Calls.Name_function_global I.ok.kind hg (Calls.loadGlobal_global (by rw [I.ok.glob]; exact I.mod.glob.keeps I.bk) hm h) hd
theorem ld_blt {E : Value → Shared → Prop} {pins : List (Addr × Obj)} {s : Shared} {σ : St} {H : Hp} {x : Str} {u : Value} {pos : Pos} {Q : Value → Shared → Prop} (I : Inv X pins σ H s) (hg : Gl X x) (hm : X.mg x = none) (hv : bootBuiltins x = some u) (h : Q u s)
    (hn : x ≠ "__name__" := by decide) (hd : (x == ("__debug__" : Str)) = false := by decide) : wpAny (model X.prog X.w) X.A (eval (.Name x pos) X.env) Q E s := by
  obtain ⟨mb, h1, h2⟩ := I.mod.blt
  exact Calls.Name_function_global I.ok.kind hg (Calls.loadGlobal_builtin (by rw [I.ok.glob]; exact I.mod.glob.keeps I.bk) hm (by rw [I.ok.blt]; exact h1.keeps I.bk) ((h2 x hn).trans hv) h) hd
/-- a module's constant, a class, a function, as a value -/
theorem pe_glob {x : Str} {v : V} {u : Value} {pos : Pos} (hg : Gl X x) (hm : X.mg x = some u) (r : RelV v u) (hd : (x == ("__debug__" : Str)) = false := by decide) : PE X (.Name x pos) (tC v) :=
  fun _ _ _ H _ I h => ld_glob I hg hm ⟨v, H, I, r, h⟩ hd
theorem pe_bltn {x : Str} {v : V} {u : Value} {pos : Pos} (hg : Gl X x) (hm : X.mg x = none) (hv : bootBuiltins x = some u) (r : RelV v u) (hn : x ≠ "__name__" := by decide) (hd : (x == ("__debug__" : Str)) = false := by decide) : PE X (.Name x pos) (tC v) :=
  fun _ _ _ H _ I h => ld_blt I hg hm hv ⟨v, H, I, r, h⟩ hn hd

/-! ### arithmetic -/
/-- two ints -/
def t2I (ta tb : TE) (k : Int → Int → Hp → Prop) : St → Hp → Prop := fun σ H => ta σ H fun x H1 => tb σ H1 fun y H2 => ∃ i j, x = .int i ∧ y = .int j ∧ k i j H2
def tAdd (ta tb : TE) : TE := fun σ H Q => t2I ta tb (fun i j H2 => Q (.int (i + j)) H2) σ H
def tSub (ta tb : TE) : TE := fun σ H Q => t2I ta tb (fun i j H2 => Q (.int (i - j)) H2) σ H
/-- the left factor below 2^64 -/
def tMul (ta tb : TE) : TE := fun σ H Q => t2I ta tb (fun i j H2 => (-(2 ^ 64) < i ∧ i < 2 ^ 64) ∧ Q (.int (i * j)) H2) σ H
variable {a b : Expr} {ta tb : TE} {pos : Pos}
/-! ### comparisons -/
def PC (X : Cx) (op : CmpOp) (a b : Expr) (t : TE) : Prop :=
  ∀ (pins : List (Addr × Obj)) (s : Shared) (σ : St) (H : Hp) (Q : VK), Inv X pins σ H s → t σ H Q →
    wpAny (model X.prog X.w) X.A (eval a X.env) (fun v s₁ => wpAny (model X.prog X.w) X.A (eval b X.env) (fun u s₂ => wpAny (model X.prog X.w) X.A (compareOp op v u) (EP X pins σ Q) X.xe s₂) X.xe s₁) X.xe s
def tCmp (p : Int → Int → Bool) (ta tb : TE) : TE := fun σ H Q => t2I ta tb (fun i j H2 => Q (.bl (p i j)) H2) σ H
abbrev tLt : TE → TE → TE := tCmp fun i j => decide (i < j)
abbrev tLe : TE → TE → TE := tCmp fun i j => decide (i ≤ j)
abbrev tGt : TE → TE → TE := tCmp fun i j => decide (j < i)
abbrev tGe : TE → TE → TE := tCmp fun i j => decide (j ≤ i)
abbrev tEqI : TE → TE → TE := tCmp fun i j => decide (i = j)
abbrev tNeI : TE → TE → TE := tCmp fun i j => !decide (i = j)
/-- is None -/
def tIsN (ta : TE) : TE := fun σ H Q => ta σ H fun x H1 => Q (.bl (decide (x = .non))) H1
def tNotN (ta : TE) : TE := fun σ H Q => ta σ H fun x H1 => Q (.bl (!decide (x = .non))) H1
/-- a comparison as a value, as a test -/
def tB (t : TE) : TT := fun σ H Q => t σ H fun x H1 => ∃ c, x = .bl c ∧ Q c H1
/-! ### and, or, not -/
variable {tA tB' : TT} {rest : List Expr}
def tAnd (t u : TT) : TT := fun σ H Q => t σ H fun c H1 => if c = true then u σ H1 Q else Q false H1
def tOr (t u : TT) : TT := fun σ H Q => t σ H fun c H1 => if c = true then Q true H1 else u σ H1 Q
def tNot (t : TT) : TT := fun σ H Q => t σ H fun c H1 => Q (!c) H1
theorem pw_and1 (ha : PT X a tA) : PW X (.BoolOp .And [a] pos) tA := by
  intro wh pins s σ H Q I h
  refine isTrue_and (thn (ha pins s σ H Q I h) fun c s1 e => ?_)
  cases c with
  | true => exact isTrue_and_nil e
  | false => exact e
theorem pw_or1 (ha : PT X a tA) : PW X (.BoolOp .Or [a] pos) tA := by
  intro wh pins s σ H Q I h
  refine isTrue_or (thn (ha pins s σ H Q I h) fun c s1 e => ?_)
  cases c with
  | false => exact isTrue_or_nil e
  | true => exact e
theorem pw_and (ha : PT X a tA) (hb : PW X (.BoolOp .And (b :: rest) pos) tB') : PW X (.BoolOp .And (a :: b :: rest) pos) (tAnd tA tB') := by
  intro wh pins s σ H Q I h
  refine isTrue_and (thn (ha pins s σ H _ I h) fun c s1 ⟨H1, I1, q1⟩ => ?_)
  cases c with
  | true => exact hb wh pins s1 σ H1 Q I1 q1
  | false => exact ⟨H1, I1, q1⟩
theorem pw_or (ha : PT X a tA) (hb : PW X (.BoolOp .Or (b :: rest) pos) tB') : PW X (.BoolOp .Or (a :: b :: rest) pos) (tOr tA tB') := by
  intro wh pins s σ H Q I h
  refine isTrue_or (thn (ha pins s σ H _ I h) fun c s1 ⟨H1, I1, q1⟩ => ?_)
  cases c with
  | true => exact ⟨H1, I1, q1⟩
  | false => exact hb wh pins s1 σ H1 Q I1 q1
theorem pt_not (ha : PT X a tA) : PT X (.UnaryOp .Not a pos) (tNot tA) := by
  intro pins s σ H Q I h
  exact isTrue_not (ha pins s σ H (fun c H1 => Q (!c) H1) I h)
/-- .. as values (bools) -/
def tAndV (ta tb : TE) : TE := fun σ H Q => ta σ H fun x H1 => ∃ c, x = .bl c ∧ if c = true then tb σ H1 Q else Q (.bl false) H1
def tOrV (ta tb : TE) : TE := fun σ H Q => ta σ H fun x H1 => ∃ c, x = .bl c ∧ if c = true then Q (.bl true) H1 else tb σ H1 Q
def tNotV (ta : TE) : TE := fun σ H Q => ta σ H fun x H1 => ∃ c, x = .bl c ∧ Q (.bl (!c)) H1
theorem pe_one {op} {t : TE} (h : PE X a t) : PE X (.BoolOp op [a] pos) t := fun pins s σ H Q I hw => BoolOp_one (h pins s σ H Q I hw)
theorem pe_or (ha : PE X a ta) (hb : PE X (.BoolOp .Or (b :: rest) pos) tb) : PE X (.BoolOp .Or (a :: b :: rest) pos) (tOrV ta tb) := by
  intro pins s σ H Q I h
  refine BoolOp_or (thn (ha pins s σ H _ I h) fun v s1 ⟨x, H1, I1, r1, q1⟩ => ?_)
  obtain ⟨c, rfl, q1⟩ := q1
  cases r1
  refine wpAny_truthy_bool ?_
  cases c with
  | false => exact hb pins s1 σ H1 Q I1 q1
  | true => exact ⟨.bl true, H1, I1, rfl, q1⟩
/-- a if t else b -/
def tIf (t : TT) (ta tb : TE) : TE := fun σ H Q => t σ H fun c H1 => if c = true then ta σ H1 Q else tb σ H1 Q
theorem pe_ifExp {c : Expr} (hc : PT X c tA) (ha : PE X a ta) (hb : PE X b tb) : PE X (.IfExp c a b pos) (tIf tA ta tb) := by
  intro pins s σ H Q I h
  refine wpAny_IfExp (thn (hc pins s σ H _ I h) fun d s1 ⟨H1, I1, q1⟩ => ?_)
  cases d with
  | true => exact ha pins s1 σ H1 Q I1 q1
  | false => exact hb pins s1 σ H1 Q I1 q1
end
end L2

namespace L2
open PySem PySem.Spec PyProof.Rows

/-! ### a list, a tuple that is read: tracked, frozen, or an object of the module -/
def SqL (K : PySem.W.Frag) (H : Hp) (a : Addr) (xs : List V) : Prop :=
  Rd H a (.lst xs) ∨
    ∃ (o : Obj) (its : Array Value) (n : Nat), K.lookup a = some o ∧ o.cls = .type "list" ∧ o.dict = none ∧ o.data = .seq its n ∧ its.size ≤ sizeLine ∧ Vals xs its.toList
def SqT (K : PySem.W.Frag) (H : Hp) (a : Addr) (xs : List V) : Prop :=
  Rd H a (.tup xs) ∨
    ∃ (o : Obj) (its : Array Value) (n : Nat), K.lookup a = some o ∧ o.cls = .type "tuple" ∧ (o.data = .seq its n ∧ o.dict = none) ∧ its.size ≤ sizeLine ∧ Vals xs its.toList
def absV : Value → Option V
  | .none => some .non
  | .bool b => some (.bl b)
  | .int i _ => some (.int i)
  | .str x _ => some (.str x)
  | .bytes b _ => some (.byt b)
  | .float b _ => some (.flt b)
  | .ref a => some (.ref a)
  | .type n => some (.ty n)
  | _ => none
theorem RelV.abs {x : V} {u : Value} (r : RelV x u) : absV u = some x := by
  cases x with
  | non => cases r; rfl
  | bl _ => cases r; rfl
  | int _ => obtain ⟨t, rfl⟩ := r; rfl
  | str _ => obtain ⟨t, rfl⟩ := r; rfl
  | byt _ => obtain ⟨t, rfl⟩ := r; rfl
  | flt _ => obtain ⟨t, rfl⟩ := r; rfl
  | ref _ => cases r; rfl
  | ty _ => cases r; rfl
theorem RelV.inj {x y : V} {u : Value} (r : RelV x u) (q : RelV y u) : x = y := Option.some.inj (r.abs.symm.trans q.abs)
theorem Vals.inj : ∀ {xs ys : List V} {us : List Value}, Vals xs us → Vals ys us → xs = ys
  | _, _, _, .nil, .nil => rfl
  | _, _, _, .cons r t, .cons r' t' => by rw [r.inj r', Vals.inj t t']
section
variable {X : Cx} {pins : List (Addr × Obj)} {σ : St} {H : Hp} {s : Shared} {a : Addr} {xs ys : List V}
theorem SqL.of {K : PySem.W.Frag} (h : H a = some (.lst xs)) : SqL K H a xs := .inl (.inl h)
theorem SqT.of {K : PySem.W.Frag} (h : H a = some (.tup xs)) : SqT K H a xs := .inl (.inl h)
theorem Inv.list (I : Inv X pins σ H s) (h : SqL X.K H a xs) : ∃ its : List Value, Vals xs its ∧ PlainL s.heap a its.toArray ∧ xs.length ≤ sizeLine := by
  rcases h with h | ⟨o, its, n, hk, hc, hd, hs, hz, r⟩
  · obtain ⟨z, its, n, r, e⟩ := h.ok I.hok
    exact ⟨its, r, ⟨_, n, e, rfl, rfl, rfl⟩, z⟩
  · refine ⟨its.toList, r, ⟨o, n, I.kIn a o hk, hc, hd, by simpa using hs⟩, ?_⟩
    have e := r.length
    simp only [Array.length_toList] at e
    omega
theorem Inv.tuple (I : Inv X pins σ H s) (h : SqT X.K H a xs) : ∃ its : List Value, Vals xs its ∧ IsTup s.heap a its.toArray ∧ xs.length ≤ sizeLine := by
  rcases h with h | ⟨o, its, n, hk, hc, hs, hz, r⟩
  · obtain ⟨z, its, r, p⟩ := h.ok I.hok
    exact ⟨its, r, p.tup, z⟩
  · refine ⟨its.toList, r, ⟨o, I.kIn a o hk, hc, n, by simpa using hs.1⟩, ?_⟩
    have e := r.length
    simp only [Array.length_toList] at e
    omega
theorem Inv.list_inj (I : Inv X pins σ H s) (h : SqL X.K H a xs) (h' : SqL X.K H a ys) : xs = ys := by
  obtain ⟨its, r, ⟨o, n, e, _, _, d⟩, _⟩ := I.list h
  obtain ⟨its', r', ⟨o', n', e', _, _, d'⟩, _⟩ := I.list h'
  rw [e] at e'; cases e'
  rw [d] at d'
  injection d' with d1 _
  have : its = its' := by simpa using congrArg Array.toList d1
  subst this
  exact r.inj r'
theorem Inv.tuple_inj (I : Inv X pins σ H s) (h : SqT X.K H a xs) (h' : SqT X.K H a ys) : xs = ys := by
  obtain ⟨its, r, ⟨o, e, _, n, d⟩, _⟩ := I.tuple h
  obtain ⟨its', r', ⟨o', e', _, n', d'⟩, _⟩ := I.tuple h'
  rw [e] at e'; cases e'
  rw [d] at d'
  injection d' with d1 _
  have : its = its' := by simpa using congrArg Array.toList d1
  subst this
  exact r.inj r'
end

/-! ### another wish about exceptions -/
abbrev Cx.wish (X : Cx) (E : Value → Shared → Prop) : Cx := { X with xe := E }
/-- no exception leaves -/
abbrev Cx.nox (X : Cx) : Cx := X.wish fun _ _ => False
theorem Cx.Ok.wish {X : Cx} (ok : X.Ok) (E : Value → Shared → Prop) : (X.wish E).Ok :=
  ⟨ok.mod, ok.kind, ok.glob, ok.blt, ok.above, ok.inj, ok.has, ok.cab, ok.hd, ok.frames, ok.stk, ok.exf, ok.bs, ok.bsz, ok.noex, ok.exfs, ok.funs, ok.frf⟩
theorem Cx.Ok.unwish {X : Cx} {E : Value → Shared → Prop} (ok : (X.wish E).Ok) : X.Ok :=
  ⟨ok.mod, ok.kind, ok.glob, ok.blt, ok.above, ok.inj, ok.has, ok.cab, ok.hd, ok.frames, ok.stk, ok.exf, ok.bs, ok.bsz, ok.noex, ok.exfs, ok.funs, ok.frf⟩
section
variable {X : Cx} {pins : List (Addr × Obj)} {σ : St} {H : Hp} {s : Shared} {E : Value → Shared → Prop}
theorem Inv.wish (I : Inv X pins σ H s) (E : Value → Shared → Prop) : Inv (X.wish E) pins σ H s := ⟨I.ok.wish E, I.os, I.bare, I.base, I.loc, I.cell, I.free, I.freeC, I.pin, I.hok, I.len⟩
theorem Inv.unwish (I : Inv (X.wish E) pins σ H s) : Inv X pins σ H s := ⟨I.ok.unwish, I.os, I.bare, I.base, I.loc, I.cell, I.free, I.freeC, I.pin, I.hok, I.len⟩
theorem SP.unwish {D : Ends} {f : Flow} {s' : Shared} (h : SP (X.wish E) pins D f s') : SP X pins D f s' := by
  cases f with
  | next => obtain ⟨σ', H', I, q⟩ := h; exact ⟨σ', H', I.unwish, q⟩
  | brk => obtain ⟨σ', H', I, q⟩ := h; exact ⟨σ', H', I.unwish, q⟩
  | cont => obtain ⟨σ', H', I, q⟩ := h; exact ⟨σ', H', I.unwish, q⟩
  | ret u => obtain ⟨v, σ', H', I, r, q⟩ := h; exact ⟨v, σ', H', I.unwish, r, q⟩
theorem PE.nox {e : Expr} {t : TE} (h : PE X.nox e t) : PE X e t := fun pins s σ H Q I hw =>
  wpAny_mono (h pins s σ H Q (I.wish _) hw) (fun _ _ ⟨v, H', I', r, q⟩ => ⟨v, H', I'.unwish, r, q⟩) fun _ _ z => False.elim z
theorem PT.nox {e : Expr} {t : TT} (h : PT X.nox e t) : PT X e t := fun pins s σ H Q I hw =>
  wpAny_mono (h pins s σ H Q (I.wish _) hw) (fun _ _ ⟨H', I', q⟩ => ⟨H', I'.unwish, q⟩) fun _ _ z => False.elim z
theorem PSs.nox {st : List Stmt} {t : TS} (h : PSs X.nox st t) : PSs X st t := fun pins s σ H D I hw =>
  wpAny_mono (h pins s σ H D (I.wish _) hw) (fun _ _ q => q.unwish) fun _ _ z => False.elim z
end

/-! ### blocks and small statements -/
section
variable {X : Cx} {st : Stmt} {rest : List Stmt} {t u : TS} {e : Expr} {te : TE} {pos : Pos}
def tNext : TS := fun D σ H => D.nx σ H
def tSeq (t u : TS) : TS := fun D σ H => t { D with nx := u D } σ H
theorem pss_nil : PSs X [] tNext := fun _ _ σ H _ I h => wpAny_execs_nil ⟨σ, H, I, h⟩
theorem pss_cons (h1 : PS X st t) (h2 : PSs X rest u) : PSs X (st :: rest) (tSeq t u) := by
  intro pins s σ H D I h
  refine wpAny_execs_cons (thn (h1 pins s σ H { D with nx := u D } I h) fun f s1 q => ?_)
  cases f with
  | next =>
    obtain ⟨σ', H', I', q⟩ := q
    exact h2 pins s1 σ' H' D I' q
  | ret v => exact q
  | brk => exact q
  | cont => exact q
theorem pss_one (h1 : PS X st t) : PSs X [st] t := by
  intro pins s σ H D I h
  refine wpAny_execs_cons (thn (h1 pins s σ H D I h) fun f s1 q => ?_)
  cases f with
  | next => exact wpAny_execs_nil q
  | ret v => exact q
  | brk => exact q
  | cont => exact q
def tBreak : TS := fun D σ H => D.bk σ H
def tCont : TS := fun D σ H => D.ct σ H
/-- an expression whose value is dropped -/
def tDrop (te : TE) : TS := fun D σ H => te σ H fun _ H1 => D.nx σ H1
def tRet (te : TE) : TS := fun D σ H => te σ H D.rt
theorem ps_ret (he : PE X e te) : PS X (.Return (some e) pos) (tRet te) := by
  intro pins s σ H D I h
  exact wpAny_Return_some (thn (he pins s σ H _ I h) fun v s1 ⟨x, H1, I1, r1, q1⟩ => ⟨x, σ, H1, I1, r1, q1⟩)
def tRetN : TS := fun D _ H => D.rt .non H
def tIfS (c : TT) (t u : TS) : TS := fun D σ H => c σ H fun b H1 => if b = true then t D σ H1 else u D σ H1
theorem ps_if {c : Expr} {a b : List Stmt} {tc : TT} (hc : PT X c tc) (ha : PSs X a t) (hb : PSs X b u) : PS X (.If c a b pos) (tIfS tc t u) := by
  intro pins s σ H D I h
  refine wpAny_If (thn (hc pins s σ H _ I h) fun d s1 ⟨H1, I1, q1⟩ => ?_)
  cases d with
  | true => exact ha pins s1 σ H1 D I1 q1
  | false => exact hb pins s1 σ H1 D I1 q1
/-- code that the proof never comes to -/
def tNever : TS := fun _ _ _ => False
theorem ps_never : PS X st tNever := fun _ _ _ _ _ _ h => h.elim
theorem pss_never {sts : List Stmt} : PSs X sts tNever := fun _ _ _ _ _ _ h => h.elim
end

/-! ### targets -/
abbrev TG := V → St → Hp → (St → Hp → Prop) → Prop
abbrev TGs := List V → St → Hp → (St → Hp → Prop) → Prop
def PG (X : Cx) (target : Expr) (t : TG) : Prop :=
  ∀ (pins : List (Addr × Obj)) (s : Shared) (σ : St) (H : Hp) (v : V) (u : Value) (Q : St → Hp → Prop), Inv X pins σ H s → RelV v u → t v σ H Q →
    wpAny (model X.prog X.w) X.A (assign target X.env u) (fun _ s' => ∃ σ' H', Inv X pins σ' H' s' ∧ Q σ' H') X.xe s
/-- several targets, one after another -/
def PGs (X : Cx) (ts : List Expr) (t : TGs) : Prop :=
  ∀ (pins : List (Addr × Obj)) (s : Shared) (σ : St) (H : Hp) (vs : List V) (us : List Value) (Q : St → Hp → Prop), Inv X pins σ H s → Vals vs us → t vs σ H Q →
    wpAny (model X.prog X.w) X.A (assignInOrder ((assignEach ts X.env).map (·.2)) us) (fun _ s' => ∃ σ' H', Inv X pins σ' H' s' ∧ Q σ' H') X.xe s
/-- o[i] = v, by values -/
abbrev TSet := V → V → V → Hp → (Hp → Prop) → Prop
def PSet (X : Cx) (t : TSet) : Prop :=
  ∀ (pins : List (Addr × Obj)) (s : Shared) (σ : St) (H : Hp) (o i v : V) (ov iv u : Value) (Q : Hp → Prop), Inv X pins σ H s → RelV o ov → RelV i iv → RelV v u → t o i v H Q →
    wpAny (model X.prog X.w) X.A (setItem ov iv u) (fun _ s' => ∃ H', Inv X pins σ H' s' ∧ Q H') X.xe s
/-- a op= b, by values -/
abbrev TIp := V → V → Hp → VK → Prop
def PIp (X : Cx) (op : Operator) (t : TIp) : Prop :=
  ∀ (pins : List (Addr × Obj)) (s : Shared) (σ : St) (H : Hp) (x y : V) (v u : Value) (Q : VK), Inv X pins σ H s → RelV x v → RelV y u → t x y H Q →
    wpAny (model X.prog X.w) X.A (inplaceOp op v u) (EP X pins σ Q) X.xe s
section
variable {X : Cx} {pos : Pos}
def gName (i : Nat) : TG := fun v σ H Q => Q (σ.set i (some v)) H
theorem pg_name {i : Nat} {x : Str} (hN : X.N.Nodup) (hi : X.N[i]? = some x) (hx : Loc X.env.scope x) (hf : X.fn x = true ∨ X.env.scope.names.lookup x = some .local := by first | exact .inl rfl | exact .inr rfl | assumption) : PG X (.Name x pos) (gName i) := by
  intro pins s σ H v u Q I r h
  exact wpAny_assign_Name (store_ok I hN hi hx r (fun s' I' => ⟨_, H, I', h⟩) hf)
def gNil : TGs := fun vs σ H Q => vs = [] ∧ Q σ H
def gCons (t : TG) (u : TGs) : TGs := fun vs σ H Q => ∃ v r, vs = v :: r ∧ t v σ H fun σ' H' => u r σ' H' Q
theorem pgs_nil : PGs X [] gNil := by
  intro pins s σ H vs us Q I r h
  obtain ⟨e, h⟩ := h
  subst e
  cases r
  exact assignInOrder_nil ⟨σ, H, I, h⟩
theorem pgs_cons {e : Expr} {es : List Expr} {t : TG} {u : TGs} (h1 : PG X e t) (h2 : PGs X es u)
    (hs : (assignEach (e :: es) X.env).map (·.2) = assign e X.env :: (assignEach es X.env).map (·.2) := by rfl) : PGs X (e :: es) (gCons t u) := by
  intro pins s σ H vs us Q I r h
  obtain ⟨v, vr, e1, h⟩ := h
  subst e1
  cases r with
  | cons r rr =>
    rw [hs]
    refine assignInOrder_cons (thn (h1 pins s σ H _ _ _ I r h) fun _ s1 ⟨σ1, H1, I1, q1⟩ => ?_)
    exact h2 pins s1 σ1 H1 _ _ Q I1 rr q1
/-- (a, b, ..) = a tuple of that length -/
def gTup (K : PySem.W.Frag) (n : Nat) (t : TGs) : TG := fun v σ H Q => ∃ a xs, v = .ref a ∧ SqT K H a xs ∧ xs.length = n ∧ t xs σ H Q
theorem pg_tup {es : List Expr} {k : Nat} {t : TGs} {n : Nat} (hc : X.calm = true) (h : PGs X es t)
    (hn : (assignEach es X.env).length = n := by rfl) (hst : (assignEach es X.env).findIdx? (·.1) = none := by rfl) : PG X (.Tuple es k pos) (gTup X.K n t) := by
  intro pins s σ H v u Q I r hw
  obtain ⟨a, xs, e1, hq, hl, hw⟩ := hw
  subst e1
  cases r
  obtain ⟨its, rv, ht, hz⟩ := I.tuple hq
  refine assign_Tuple_tuple (I.ok.hd hc) ht (by simp [hn, ← hl, rv.length]) hst fun h' hx => ?_
  have I1 : Inv X pins σ H { s with heap := h' } := I.kept (t' := s.toks) fun b o e => hx b o (Nat.ne_of_lt (Heap.lt_size e)) e
  exact h pins _ σ H xs _ Q I1 (by simpa using rv) hw
/-- o[i] = .. -/
def gSub (to ti : TE) (t : TSet) : TG := fun v σ H Q => to σ H fun o H1 => ti σ H1 fun i H2 => t o i v H2 fun H3 => Q σ H3
/-- target = value -/
def tAsg (te : TE) (g : TG) : TS := fun D σ H => te σ H fun x H1 => g x σ H1 D.nx
theorem ps_asg {tg e : Expr} {te : TE} {g : TG} (he : PE X e te) (hg : PG X tg g) (hs : swapsWithSole [tg] e pos.line X.env = pure false := by rfl) (hw : swappedStores [tg] e X.env = pure none := by rfl)
    (h1 : (assignEach [tg] X.env).map (·.2) = [assign tg X.env] := by rfl) : PS X (.Assign [tg] e pos) (tAsg te g) := by
  intro pins s σ H D I h
  refine wpAny_Assign_stores (thn (he pins s σ H _ I h) fun v s1 ⟨x, H1, I1, r1, q1⟩ => ?_) hs hw
  rw [h1]
  exact thn (hg pins s1 σ H1 x v _ I1 r1 q1) fun _ s2 q => q
/-- a, b = x, y with plain local names: stored from the right; the pair itself is not tracked (the opening rows as in PyProof/Rows/TupAssign.lean:23) -/
def tPar (i j : Nat) (ta : TA) : TS := fun D σ H => ta σ H fun vs H1 => ∃ v w, vs = [v, w] ∧ D.nx ((σ.set i (some v)).set j (some w)) H1
theorem ps_par {i j : Nat} {x y : Str} {a b : Expr} {ta : TA} {px py pt : Pos} {kt k2 pt2} (hc : X.calm = true) (hN : X.N.Nodup) (hi : X.N[i]? = some x) (hj : X.N[j]? = some y) (hij : i ≠ j)
    (hx : X.env.scope.names.lookup x = some .local) (hy : X.env.scope.names.lookup y = some .local) (ha : PA X [a, b] ta)
    (hw : swappedStores [.Tuple [.Name x px, .Name y py] kt pt] (.Tuple [a, b] k2 pt2) X.env = pure (some [x, y]))
    (hs : swapsWithSole [.Tuple [.Name x px, .Name y py] kt pt] (.Tuple [a, b] k2 pt2) pos.line X.env = pure false := by rfl) :
    PS X (.Assign [.Tuple [.Name x px, .Name y py] kt pt] (.Tuple [a, b] k2 pt2) pos) (tPar i j ta) := by
  intro pins s σ H D I h
  rw [exec_Assign_arm]
  refine wpAny_bind (wpAny_standAt ?_)
  rw [hs]
  refine wpAny_bind (wpAny_pure ?_)
  rw [if_neg (by decide)]
  refine wpAny_bind (Tuple_ (thn (ha _ pins s σ H _ I h) fun us s1 ⟨vs, H1, I1, r1, q1⟩ => ?_))
  obtain ⟨v, w, e1, q1⟩ := q1
  subst e1
  obtain ⟨u1, u2, rfl, rv, rw'⟩ : ∃ u1 u2, us = [u1, u2] ∧ RelV v u1 ∧ RelV w u2 := by
    cases r1 with
    | cons p q =>
      cases q with
      | cons p' q' =>
        cases q'
        exact ⟨_, _, rfl, p, p'⟩
  refine wpAny_newObj_type ?_ (by show 2 ≤ sizeLine; decide)
  have I2 : Inv X pins σ H1 { s1 with heap := s1.heap.push { cls := .type "tuple", data := .seq [u1, u2].toArray } } := I1.kept (t' := s1.toks) fun b o e => Heap.get?_push_of_some _ e
  rw [hw]
  refine wpAny_bind (wpAny_pure ?_)
  show wpAny (model X.prog X.w) X.A (do rule "assign.swapped-stores"; let items ← unpackItems (.ref s1.heap.objs.size) 2 none; assignInOrder [fun v => bindName X.env y v, fun v => bindName X.env x v] items.reverse; pure Flow.next) _ _ _
  refine wpAny_bind (wpAny_rule (wpAny_bind (unpackItems_tuple (items := #[u1, u2]) (I.ok.hd hc) (IsTup.new s1.heap _) fun h' hx' => ?_)))
  have I3 := I2.kept (h' := h') (t' := s1.toks) fun b o e => hx' b o (Nat.ne_of_lt (Heap.lt_size e)) e
  show wpAny _ _ (assignInOrder [fun v => bindName X.env y v, fun v => bindName X.env x v] [u2, u1] >>= fun _ => pure Flow.next) _ _ _
  refine wpAny_bind (assignInOrder_cons (wpAny_bindName (store_ok I3 hN hj (.inl hy) rw' (fun s2 I4 => ?_) (.inr hy))))
  refine assignInOrder_cons (wpAny_bindName (store_ok I4 hN hi (.inl hx) rv (fun s3 I5 => assignInOrder_nil (wpAny_pure ?_)) (.inr hx)))
  rw [List.set_comm _ _ (Ne.symm hij)] at I5
  exact ⟨_, H1, I5, q1⟩
/-- name op= e -/
def tAug (i : Nat) (te : TE) (ti : TIp) : TS := fun D σ H => ∃ x, σ[i]? = some (some x) ∧ te σ H fun y H1 => ti x y H1 fun z H2 => D.nx (σ.set i (some z)) H2
/-- o[i] op= e -/
def tAugS (to ti te : TE) (tget : V → V → Hp → VK → Prop) (tip : TIp) (tset : TSet) : TS := fun D σ H => to σ H fun o H1 => ti σ H1 fun i H2 => tget o i H2 fun x H3 => te σ H3 fun y H4 => tip x y H4 fun z H5 => tset o i z H5 fun H6 => D.nx σ H6
/-- o[i], by values -/
def PGet (X : Cx) (t : V → V → Hp → VK → Prop) : Prop :=
  ∀ (pins : List (Addr × Obj)) (s : Shared) (σ : St) (H : Hp) (o i : V) (ov iv : Value) (Q : VK), Inv X pins σ H s → RelV o ov → RelV i iv → t o i H Q →
    wpAny (model X.prog X.w) X.A (getItem ov iv) (EP X pins σ Q) X.xe s
/-- ints -/
def ipI (f : Int → Int → Int) : TIp := fun x y H Q => ∃ i j, x = .int i ∧ y = .int j ∧ Q (.int (f i j)) H
end

/-! ### while -/
section
variable {X : Cx} {pos : Pos}
/-- the invariant W with its measure -/
def tWhile (c : TT) (tb : TS) : TS := fun D σ H => ∃ W : Nat → St → Hp → Prop, (∃ m, W m σ H) ∧ ∀ m σ H, W m σ H →
  c σ H fun b H1 => if b = true then ∃ N : St → Hp → Prop, (∀ σ' H', N σ' H' → ∃ m', m' < m ∧ W m' σ' H') ∧ tb { D with nx := N, ct := N, bk := D.nx } σ H1 else D.nx σ H1
end

/-! ### what a loop or a comprehension walks -/
/-- at turn i: it yields x (the heap may grow), or it stops -/
structure It where
  go : Nat → Hp → Prop
  yld : Nat → Hp → V → Hp → Prop
  stop : Nat → Hp → Prop
/-- the iterator's own objects may turn: they are not the frame's, not pinned, younger than the entry (or a comprehension's own) -/
def FpOk (X : Cx) (pins : List (Addr × Obj)) (H : Hp) (b : Addr) : Prop :=
  H b = none ∧ b ≠ X.env.locals ∧ b ∉ X.fs ∧ (b ∈ X.ex ∨ X.s_0.heap.objs.size ≤ b) ∧ (∀ x c, X.env.cells.lookup x = some c → c ≠ b) ∧ ∀ p ∈ X.pn ++ pins, p.1 ≠ b
theorem Inv.fpOk {X : Cx} {pins : List (Addr × Obj)} {σ : St} {H H' : Hp} {s : Shared} {b : Addr} (I : Inv X pins σ H s) (hb : s.heap.objs.size ≤ b) (hn : H' b = none) : FpOk X pins H' b := by
  refine ⟨hn, Nat.ne_of_gt (Nat.lt_of_lt_of_le I.lt hb), I.nofs hb, .inr (Nat.le_trans I.sz hb), fun x c e z => ?_, fun p hp z => ?_⟩
  · obtain ⟨v, q⟩ := I.cell x c e
    exact absurd (Nat.lt_of_lt_of_le q.lt (by rw [z]; exact hb)) (Nat.lt_irrefl _)
  · exact absurd (Nat.lt_of_lt_of_le (Heap.lt_size (I.pin p hp).1) (by rw [z]; exact hb)) (Nat.lt_irrefl _)
structure Turn (P : Program) (w : World) (K : PySem.W.Frag) (tg : Expr) (J : It) (fp : List Addr) (it : Addr) (tn : Nat → Heap → Prop) : Prop where
  mem : it ∈ fp
  obj : ∀ i h, tn i h → ∀ b ∈ fp, ∃ o, h.get? b = some o ∧ ∀ v, o.data ≠ .cell v
  keep : ∀ i h h', tn i h → (∀ b ∈ fp, ∀ o, h.get? b = some o → h'.get? b = some o) → tn i h'
  item : ∀ (X : Cx), X.prog = P → X.w = w → X.K = K → X.calm = true → ∀ (i : Nat) (pins : List (Addr × Obj)) (s : Shared) (σ : St) (H : Hp) (E : Value → Shared → Prop), Inv X pins σ H s → (∀ b ∈ fp, FpOk X pins H b) → tn i s.heap → J.go i H →
    wpAny (model P w) X.A (pyNext (.ref it)) (fun r s1 => ∃ u, r = some u ∧
      wpAny (model P w) X.A (letOwnedTupleGo tg (.ref it) u) (fun _ s2 => ∃ x H', Inv X pins σ H' s2 ∧ RelV x u ∧ J.yld i H x H' ∧ tn (i + 1) s2.heap ∧ ∀ b ∈ fp, H' b = none) E s1) E s
  done : ∀ (X : Cx), X.prog = P → X.w = w → X.K = K → X.calm = true → ∀ (i : Nat) (pins : List (Addr × Obj)) (s : Shared) (σ : St) (H : Hp) (E : Value → Shared → Prop), Inv X pins σ H s → (∀ b ∈ fp, FpOk X pins H b) → tn i s.heap → J.stop i H →
    wpAny (model P w) X.A (pyNext (.ref it)) (fun r s1 => r = none ∧ Inv X pins σ H s1) E s
  self : ∀ (A : Around) (i : Nat) (s : Shared) (Q : Value → Shared → Prop) (E : Value → Shared → Prop), tn i s.heap → Q (.ref it) s → wpAny (model P w) A (pyIter (.ref it)) Q E s
abbrev TI := St → Hp → (It → Hp → Prop) → Prop
/-- an iterator has come -/
def PIE (X : Cx) (pins : List (Addr × Obj)) (σ : St) (tg : Expr) (R : It → Hp → Prop) (itv : Value) (s2 : Shared) : Prop :=
  ∃ (it : Addr) (fp : List Addr) (tn : Nat → Heap → Prop) (J : It) (H' : Hp), itv = .ref it ∧ Inv X pins σ H' s2 ∧ Turn X.prog X.w X.K tg J fp it tn ∧ tn 0 s2.heap ∧ (∀ b ∈ fp, FpOk X pins H' b) ∧ R J H'
def PI (X : Cx) (tg iter : Expr) (wi : TI) : Prop :=
  ∀ (pins : List (Addr × Obj)) (s : Shared) (σ : St) (H : Hp) (R : It → Hp → Prop), Inv X pins σ H s → wi σ H R →
    wpAny (model X.prog X.w) X.A (eval iter X.env) (fun v s1 => wpAny (model X.prog X.w) X.A (pyIter v) (PIE X pins σ tg R) X.xe s1) X.xe s

/-- the step ahead of the store is nothing for an iterator that keeps no tuple -/
theorem go_of {M : Model} {A : Around} {E : Value → Shared → Prop} {s : Shared} {tg : Expr} {it : Addr} {u : Value} {o : Obj} {n : String} {vs : Array Value} {Q : Unit → Shared → Prop} (ho : s.heap.get? it = some o) (hc : o.cls = .type n) (hd : o.data = .fields vs)
    (hn : ["enumerate", "zip", "dict_itemiterator", "dict_reverseitemiterator", "odict_iterator", "itertools.zip_longest", "itertools.pairwise"].contains n = false) (hQ : Q () s) : wpAny M A (letOwnedTupleGo tg (.ref it) u) Q E s := by
  unfold letOwnedTupleGo
  cases tg <;> first
    | exact wpAny_pure hQ
    | (cases u <;> first
        | exact wpAny_pure hQ
        | (refine wpAny_bind (wpAny_load ho ?_)
           rw [hc, hd]
           show wpAny M A (if (["enumerate", "zip", "dict_itemiterator", "dict_reverseitemiterator", "odict_iterator", "itertools.zip_longest", "itertools.pairwise"].contains n && vs[0]? == some (rawInt _)) = true then _ else _) Q E s
           rw [if_neg (by intro h; rw [hn, Bool.false_and] at h; cases h)]
           exact wpAny_pure hQ))

/-- the list at a, as it stands at each turn (a loop may append to it) -/
def Itl (K : PySem.W.Frag) (a : Addr) : It :=
  ⟨fun i H => ∃ xs x, SqL K H a xs ∧ xs[i]? = some x, fun i H x H' => H' = H ∧ ∀ xs, SqL K H a xs → xs[i]? = some x, fun i H => ∃ xs, SqL K H a xs ∧ xs.length ≤ i⟩
def Itt (K : PySem.W.Frag) (a : Addr) : It :=
  ⟨fun i H => ∃ xs x, SqT K H a xs ∧ xs[i]? = some x, fun i H x H' => H' = H ∧ ∀ xs, SqT K H a xs → xs[i]? = some x, fun i H => ∃ xs, SqT K H a xs ∧ xs.length ≤ i⟩
/-- lo, lo + 1, .. (n of them) -/
def Itr (lo : Int) (n : Nat) : It := ⟨fun i _ => i < n, fun i H x H' => H' = H ∧ x = .int (lo + i), fun i _ => n ≤ i⟩
theorem turn_list {P : Program} {w : World} {K : PySem.W.Frag} {tg : Expr} (a it : Addr) : Turn P w K tg (Itl K a) [it] it (fun i h => h.IsListIter it a i) where
  mem := by simp
  obj := fun i h st b hb => by
    have e : b = it := by simpa using hb
    subst e
    obtain ⟨o, e, c, d⟩ := st
    exact ⟨o, e, fun v z => by rw [d] at z; cases z⟩
  keep := fun i h h' st k => st.at fun o e => k it (by simp) o e
  item := by
    intro X hP hw hK hc i pins s σ H E I hf st hg
    subst hP hw hK
    obtain ⟨xs, x, hq, hx⟩ := hg
    obtain ⟨its, rv, p, hz⟩ := I.list hq
    obtain ⟨u, hu, ru⟩ := rv.get hx
    obtain ⟨f0, f1, f2, f3, f4, f5⟩ := hf it (by simp)
    refine wpAny_pyNext_list_item st p.isList (x := u) (by simpa using hu) fun h' st' sb => ?_
    have I1 : Inv X pins σ H { s with heap := h' } := I.turned (t' := s.toks) (fun b o hb e => (sb.2 b hb).trans e) f0 f1 f3 f4 f5
    obtain ⟨o, e, c, d⟩ := id st'
    exact ⟨u, rfl, go_of (s := { s with heap := h' }) e c d (by decide) ⟨x, H, I1, ru, ⟨rfl, fun ys hy => by rw [I.list_inj hy hq]; exact hx⟩, st', fun b hb => (hf b hb).1⟩⟩
  done := by
    intro X hP hw hK hc i pins s σ H E I hf st hg
    subst hP hw hK
    obtain ⟨xs, hq, hx⟩ := hg
    obtain ⟨its, rv, p, hz⟩ := I.list hq
    obtain ⟨f0, f1, f2, f3, f4, f5⟩ := hf it (by simp)
    have hl := rv.length
    exact wpAny_pyNext_list_end (I.ok.hd hc) st p.isList (by simp; omega) fun h' eb => ⟨rfl, I.turned (t' := s.toks) (fun b o hb e => eb b o hb e) f0 f1 f3 f4 f5⟩
  self := fun _ _ _ _ _ st h => wpAny_pyIter_listiter st h
theorem turn_tuple {P : Program} {w : World} {K : PySem.W.Frag} {tg : Expr} (a it : Addr) : Turn P w K tg (Itt K a) [it] it (fun i h => h.IsTupleIter it a i) where
  mem := by simp
  obj := fun i h st b hb => by
    have e : b = it := by simpa using hb
    subst e
    obtain ⟨o, e, c, d⟩ := st
    exact ⟨o, e, fun v z => by rw [d] at z; cases z⟩
  keep := fun i h h' st k => st.at fun o e => k it (by simp) o e
  item := by
    intro X hP hw hK hc i pins s σ H E I hf st hg
    subst hP hw hK
    obtain ⟨xs, x, hq, hx⟩ := hg
    obtain ⟨its, rv, p, hz⟩ := I.tuple hq
    obtain ⟨u, hu, ru⟩ := rv.get hx
    obtain ⟨f0, f1, f2, f3, f4, f5⟩ := hf it (by simp)
    refine wpAny_pyNext_tuple_item st (show s.heap.IsTuple a its.toArray from p) (x := u) (by simpa using hu) fun h' st' sb => ?_
    have I1 : Inv X pins σ H { s with heap := h' } := I.turned (t' := s.toks) (fun b o hb e => (sb.2 b hb).trans e) f0 f1 f3 f4 f5
    obtain ⟨o, e, c, d⟩ := id st'
    exact ⟨u, rfl, go_of (s := { s with heap := h' }) e c d (by decide) ⟨x, H, I1, ru, ⟨rfl, fun ys hy => by rw [I.tuple_inj hy hq]; exact hx⟩, st', fun b hb => (hf b hb).1⟩⟩
  done := by
    intro X hP hw hK hc i pins s σ H E I hf st hg
    subst hP hw hK
    obtain ⟨xs, hq, hx⟩ := hg
    obtain ⟨its, rv, p, hz⟩ := I.tuple hq
    obtain ⟨f0, f1, f2, f3, f4, f5⟩ := hf it (by simp)
    have hl := rv.length
    exact wpAny_pyNext_tuple_end (I.ok.hd hc) st (show s.heap.IsTuple a its.toArray from p) (by simp; omega) fun h' eb => ⟨rfl, I.turned (t' := s.toks) (fun b o hb e => eb b o hb e) f0 f1 f3 f4 f5⟩
  self := fun _ _ _ _ _ st h => wpAny_pyIter_tupleiter st h
theorem turn_range {P : Program} {w : World} {K : PySem.W.Frag} {tg : Expr} (it : Addr) (lo : Int) (n : Nat) : Turn P w K tg (Itr lo n) [it] it (fun i h => IsRangeIter h it (lo + (i : Nat) * 1) ((n : Int) - (i : Nat)) 1) where
  mem := by simp
  obj := fun i h st b hb => by
    have e : b = it := by simpa using hb
    subst e
    exact ⟨_, st, fun v z => by
      have z' : Data.fields _ = Data.cell v := z
      cases z'⟩
  keep := fun i h h' st k => k it (by simp) _ st
  item := by
    intro X hP hw hK hc i pins s σ H E I hf st hg
    subst hP hw hK
    obtain ⟨f0, f1, f2, f3, f4, f5⟩ := hf it (by simp)
    have W := Walks.range (prog := X.prog) (w := X.w) (I.ok.hd hc) it lo 1 n
    refine W.item i s _ _ hg st fun v h' tk hv st' kk => ?_
    obtain ⟨t, rfl⟩ := hv
    have I1 : Inv X pins σ H { s with heap := h', toks := tk } := I.turned (fun b o hb e => kk b o (by simpa using hb) e) f0 f1 f3 f4 f5
    refine ⟨_, rfl, go_of (s := { s with heap := h', toks := tk }) (n := "range_iterator") st' rfl rfl (by decide) ⟨.int (lo + i), H, I1, ⟨t, ?_⟩, ⟨rfl, rfl⟩, st', fun b hb => (hf b hb).1⟩⟩
    rw [Int.mul_one]
  done := by
    intro X hP hw hK hc i pins s σ H E I hf st hg
    subst hP hw hK
    obtain ⟨f0, f1, f2, f3, f4, f5⟩ := hf it (by simp)
    exact wpAny_pyNext_range_end (I.ok.hd hc) st (by have : n ≤ i := hg; omega) fun h' eb => ⟨rfl, I.turned (t' := s.toks) (fun b o hb e => eb b o hb e) f0 f1 f3 f4 f5⟩
  self := fun _ _ _ _ _ st h => wpAny_pyIter_rangeiter st h
end L2

namespace L2
open PySem PySem.Spec PyProof.Rows
section
variable {X : Cx} {tg : Expr}
def iList (K : PySem.W.Frag) (tl : TE) : TI := fun σ H R => tl σ H fun x H1 => ∃ a, x = .ref a ∧ (∃ xs, SqL K H1 a xs) ∧ R (Itl K a) H1
def iTup (K : PySem.W.Frag) (tl : TE) : TI := fun σ H R => tl σ H fun x H1 => ∃ a, x = .ref a ∧ (∃ xs, SqT K H1 a xs) ∧ R (Itt K a) H1
theorem pi_list {l : Expr} {tl : TE} (hl : PE X l tl) : PI X tg l (iList X.K tl) := by
  intro pins s σ H R I h
  refine thn (hl pins s σ H _ I h) fun v s1 ⟨x, H1, I1, r1, q1⟩ => ?_
  obtain ⟨a, e, ⟨xs, hq⟩, q⟩ := q1
  subst e
  cases r1
  obtain ⟨its, rv, p, hz⟩ := I1.list hq
  refine wpAny_pyIter_list p.isList ?_
  refine ⟨s1.heap.objs.size, [s1.heap.objs.size], _, _, H1, rfl, I1.kept (t' := s1.toks) fun b o e => Heap.get?_push_of_some _ e, turn_list a _, ⟨_, Heap.get?_push_size _ rfl, rfl, rfl⟩, fun b hb => ?_, q⟩
  have e : b = s1.heap.objs.size := by simpa using hb
  subst e
  exact I1.fpOk (Nat.le_refl _) (I1.hok.fresh (Nat.le_refl _))
theorem pi_tup {l : Expr} {tl : TE} (hl : PE X l tl) : PI X tg l (iTup X.K tl) := by
  intro pins s σ H R I h
  refine thn (hl pins s σ H _ I h) fun v s1 ⟨x, H1, I1, r1, q1⟩ => ?_
  obtain ⟨a, e, ⟨xs, hq⟩, q⟩ := q1
  subst e
  cases r1
  obtain ⟨its, rv, p, hz⟩ := I1.tuple hq
  refine wpAny_pyIter_tuple (show s1.heap.IsTuple a its.toArray from p) ?_
  refine ⟨s1.heap.objs.size, [s1.heap.objs.size], _, _, H1, rfl, I1.kept (t' := s1.toks) fun b o e => Heap.get?_push_of_some _ e, turn_tuple a _, ⟨_, Heap.get?_push_size _ rfl, rfl, rfl⟩, fun b hb => ?_, q⟩
  have e : b = s1.heap.objs.size := by simpa using hb
  subst e
  exact I1.fpOk (Nat.le_refl _) (I1.hok.fresh (Nat.le_refl _))
/-- a range object just made, walked -/
theorem range_it {pins : List (Addr × Obj)} {σ : St} {H : Hp} {s : Shared} {R : It → Hp → Prop} {E : Value → Shared → Prop} {lo hi : Int} {t u v : Tok} {tk : Nat} (I : Inv X pins σ H s) (h1 : -(2 ^ 62) ≤ lo) (h2 : lo < 2 ^ 62) (h3 : -(2 ^ 62) ≤ hi) (h4 : hi < 2 ^ 62)
    (q : R (Itr lo (hi - lo).toNat) H) : wpAny (model X.prog X.w) X.A (pyIter (.ref s.heap.objs.size)) (PIE X pins σ tg R) E { s with heap := s.heap.push { cls := .type "range", data := .fields #[.int lo t, .int hi u, .int 1 v] }, toks := tk } := by
  refine wpAny_pyIter_range (IsRange.new ..) (small_one h1 h2 h3 h4) ?_
  have I1 : Inv X pins σ H { s with heap := s.heap.push { cls := .type "range", data := .fields #[.int lo t, .int hi u, .int 1 v] }, toks := tk } := I.kept fun b o e => Heap.get?_push_of_some _ e
  refine ⟨(s.heap.push { cls := .type "range", data := .fields #[.int lo t, .int hi u, .int 1 v] }).objs.size, [(s.heap.push { cls := .type "range", data := .fields #[.int lo t, .int hi u, .int 1 v] }).objs.size], _, _, H, rfl,
    I1.kept (t' := tk) fun b o e => Heap.get?_push_of_some _ e, turn_range _ lo (hi - lo).toNat, ?_, fun b hb => ?_, q⟩
  · have e1 : lo + ((0 : Nat) : Int) * 1 = lo := by simp
    have e2 : (((hi - lo).toNat : Nat) : Int) - ((0 : Nat) : Int) = Builtin.Range.rangeSize lo hi 1 := by rw [rangeSize_one]; split <;> omega
    show IsRangeIter _ _ (lo + ((0 : Nat) : Int) * 1) ((((hi - lo).toNat : Nat) : Int) - ((0 : Nat) : Int)) 1
    rw [e1, e2]
    exact Heap.get?_push_size _ rfl
  · have e : b = (s.heap.push { cls := .type "range", data := .fields #[.int lo t, .int hi u, .int 1 v] }).objs.size := by simpa using hb
    subst e
    exact I1.fpOk (Nat.le_refl _) (I1.hok.fresh (Nat.le_refl _))
def iRng1 (ta : TA) : TI := fun σ H R => ta σ H fun vs H1 => ∃ j : Int, vs = [.int j] ∧ -(2 ^ 62) ≤ j ∧ j < 2 ^ 62 ∧ R (Itr 0 j.toNat) H1
def iRng2 (ta : TA) : TI := fun σ H R => ta σ H fun vs H1 => ∃ i j : Int, vs = [.int i, .int j] ∧ (-(2 ^ 62) ≤ i ∧ i < 2 ^ 62 ∧ -(2 ^ 62) ≤ j ∧ j < 2 ^ 62) ∧ R (Itr i (j - i).toNat) H1
theorem pi_range1 {a : Expr} {ta : TA} {p pos : Pos} (hg : Gl X "range") (hm : X.mg "range" = none) (ha : PA X [a] ta) (hs : starEach [a] X.env = [(false, eval a X.env)] := by rfl) : PI X tg (.Call (.Name "range" p) [a] [] pos) (iRng1 ta) := by
  intro pins s σ H R I h
  refine Call_ (ld_blt I hg hm boot_range (PyProof.Rows.callWith_type1 (thn (ha pos pins s σ H _ I h) fun us s1 ⟨vs, H1, I1, r1, q1⟩ => ?_) hs rfl))
  obtain ⟨j, e, q1, q2, q⟩ := q1
  subst e
  cases r1 with
  | cons r rr =>
    cases rr
    obtain ⟨t, rfl⟩ := r
    exact call_range_1 (range_it I1 (by omega) (by omega) q1 q2 (by simpa using q))
/-! ### for -/
/-- W: the invariant by the turn and a measure; N: what the body is to reach -/
def tFor (wi : TI) (g : TG) (tb : TS) : TS := fun D σ H => wi σ H fun J H1 => ∃ W : Nat → Nat → St → Hp → Prop, (∃ m, W 0 m σ H1) ∧ ∀ i m σ H, W i m σ H →
  (J.stop i H ∧ D.nx σ H) ∨ (J.go i H ∧ ∃ N : St → Hp → Prop, (∀ σ' H', N σ' H' → ∃ m', m' < m ∧ W (i + 1) m' σ' H') ∧ ∀ x H', J.yld i H x H' → g x σ H' fun σ2 H2 => tb { D with nx := N, ct := N, bk := D.nx } σ2 H2)
/-- the records at fp as they stand -/
def pinsAt (fp : List Addr) (h : Heap) : List (Addr × Obj) := fp.filterMap fun b => (h.get? b).map fun o => (b, o)
theorem mem_pinsAt {fp : List Addr} {h : Heap} {b : Addr} {o : Obj} (hb : b ∈ fp) (e : h.get? b = some o) : (b, o) ∈ pinsAt fp h := List.mem_filterMap.mpr ⟨b, hb, by rw [e]; rfl⟩
theorem of_pinsAt {fp : List Addr} {h : Heap} {p : Addr × Obj} (hp : p ∈ pinsAt fp h) : p.1 ∈ fp ∧ h.get? p.1 = some p.2 := by
  obtain ⟨b, hb, e⟩ := List.mem_filterMap.mp hp
  cases q : h.get? b with
  | none => rw [q] at e; cases e
  | some o =>
    rw [q] at e
    have e' : (b, o) = p := Option.some.inj e
    subst e'
    exact ⟨hb, q⟩
theorem Inv.pinned {pins : List (Addr × Obj)} {σ : St} {H : Hp} {s : Shared} {fp : List Addr} (I : Inv X pins σ H s) (hf : ∀ b ∈ fp, FpOk X pins H b) (ho : ∀ b ∈ fp, ∃ o, s.heap.get? b = some o ∧ ∀ v, o.data ≠ .cell v) : Inv X (pins ++ pinsAt fp s.heap) σ H s :=
  I.pins_of fun p hp => (List.mem_append.mp hp).elim (fun z => I.pin p (List.mem_append_right _ z)) fun z => by
    obtain ⟨hb, e⟩ := of_pinsAt z
    obtain ⟨f0, f1, f2, _⟩ := hf p.1 hb
    obtain ⟨o, e', d⟩ := ho p.1 hb
    rw [e] at e'; cases e'
    exact ⟨e, f0, f1, f2, d⟩
theorem Inv.unpinned {pins pl : List (Addr × Obj)} {σ : St} {H : Hp} {s : Shared} (I : Inv X (pins ++ pl) σ H s) : Inv X pins σ H s := I.pins_of fun p hp => I.pin p (List.mem_append_right _ (List.mem_append_left _ hp))
theorem ps_for {iter : Expr} {body : List Stmt} {wi : TI} {g : TG} {tb : TS} {pos : Pos} (hp : PassesOwn (model X.prog X.w) X.A X.env X.xe) (hc : X.calm = true) (hi : PI X tg iter wi) (hg : PG X tg g) (hb : PSs X body tb)
    (hs : ∀ x, foldedSetIterable iter X.env x = pure x := by intro _; rfl) : PS X (.For tg iter body [] pos) (tFor wi g tb) := by
  intro pins s σ H D I h
  refine wpAny_For (thn (hi pins s σ H _ I h) fun v s1 h1 => thn h1 fun itv s2 h2 => ?_) hs
  obtain ⟨it, fp, tn, J, H2, e, I2, T, st2, f2, W, ⟨m0, w0⟩, turn⟩ := h2
  subst e
  -- what stays true of the iterator's objects through the loop
  have stat : ∀ {H' : Hp}, (∀ b ∈ fp, H' b = none) → ∀ b ∈ fp, FpOk X pins H' b := fun hn b hb => ⟨hn b hb, (f2 b hb).2⟩
  refine codeAny_forLoop_any (fun n s' => ∃ i σ' H', Inv X pins σ' H' s' ∧ tn i s'.heap ∧ (∀ b ∈ fp, H' b = none) ∧ W i n σ' H') ?_ m0 ⟨0, σ, H2, I2, st2, fun b hb => (f2 b hb).1, w0⟩
  rintro n s3 ⟨i, σ3, H3, I3, st3, fr3, w3⟩
  rcases turn i n σ3 H3 w3 with ⟨stop, qn⟩ | ⟨go, N, hN, step⟩
  · refine wpAny_passesOwn hp (thn (T.done X rfl rfl rfl hc i pins s3 σ3 H3 X.xe I3 (stat fr3) st3 stop) fun r s4 ⟨hr, I4⟩ => ?_)
    subst hr
    exact wpAny_execs_nil ⟨σ3, H3, I4, qn⟩
  · refine wpAny_passesOwn hp (thn (T.item X rfl rfl rfl hc i pins s3 σ3 H3 X.xe I3 (stat fr3) st3 go) fun r s4 ⟨u, hr, h4⟩ => ?_)
    subst hr
    refine wpAny_passesOwn hp (thn h4 fun _ s5 ⟨x, H5, I5, r5, y5, st5, fr5⟩ => ?_)
    have I5' := I5.pinned (stat fr5) (T.obj _ _ st5)
    refine wpAny_passesOwn hp (thn (hg _ s5 σ3 H5 x u _ I5' r5 (step x H5 y5)) fun _ s6 ⟨σ6, H6, I6, q6⟩ => ?_)
    refine wpAny_passesOwn hp (thn (hb _ s6 σ6 H6 _ I6 q6) fun f s7 q7 => ?_)
    have again : ∀ {σ7 : St} {H7 : Hp}, Inv X (pins ++ pinsAt fp s5.heap) σ7 H7 s7 → N σ7 H7 → ∃ m, m < n ∧ ∃ i σ' H', Inv X pins σ' H' s7 ∧ tn i s7.heap ∧ (∀ b ∈ fp, H' b = none) ∧ W i m σ' H' := fun {σ7 H7} I7 n7 => by
      obtain ⟨m', hm, w7⟩ := hN σ7 H7 n7
      refine ⟨m', hm, i + 1, σ7, H7, I7.unpinned, T.keep _ _ _ st5 fun b hb o e => (I7.pin (b, o) (List.mem_append_right _ (List.mem_append_right _ (mem_pinsAt hb e)))).1, fun b hb => ?_, w7⟩
      obtain ⟨o, e, d⟩ := T.obj _ _ st5 b hb
      exact (I7.pin (b, o) (List.mem_append_right _ (List.mem_append_right _ (mem_pinsAt hb e)))).2.1
    cases f with
    | next => obtain ⟨σ7, H7, I7, n7⟩ := q7; exact again I7 n7
    | cont => obtain ⟨σ7, H7, I7, n7⟩ := q7; exact again I7 n7
    | brk => obtain ⟨σ7, H7, I7, q7⟩ := q7; exact ⟨σ7, H7, I7.unpinned, q7⟩
    | ret v => obtain ⟨x7, σ7, H7, I7, r7, q7⟩ := q7; exact ⟨x7, σ7, H7, I7.unpinned, r7, q7⟩
end

/-! ### the forms one uses -/
end L2

namespace L2
open PySem PySem.Spec PyProof.Rows

abbrev R2 := V → V → Hp → VK → Prop
/-- a two-place operation on values: f is binaryOp op, inplaceOp op or compareOp op -/
def OpR (X : Cx) (f : Value → Value → Sem Value) (r : R2) : Prop :=
  ∀ (pins : List (Addr × Obj)) (s : Shared) (σ : St) (H : Hp) (x y : V) (v u : Value) (Q : VK), Inv X pins σ H s → RelV x v → RelV y u → r x y H Q →
    wpAny (model X.prog X.w) X.A (f v u) (EP X pins σ Q) X.xe s
/-- a one-place operation -/
def UnR (X : Cx) (f : Value → Sem Value) (r : V → Hp → VK → Prop) : Prop :=
  ∀ (pins : List (Addr × Obj)) (s : Shared) (σ : St) (H : Hp) (x : V) (v : Value) (Q : VK), Inv X pins σ H s → RelV x v → r x H Q →
    wpAny (model X.prog X.w) X.A (f v) (EP X pins σ Q) X.xe s
/-- a call of a value that is known (a builtin, a type) with values -/
def CallR (X : Cx) (f : Value) (r : List V → Hp → VK → Prop) : Prop :=
  ∀ (pins : List (Addr × Obj)) (s : Shared) (σ : St) (H : Hp) (xs : List V) (us : List Value) (Q : VK), Inv X pins σ H s → Vals xs us → r xs H Q →
    wpAny (model X.prog X.w) X.A (call f us) (EP X pins σ Q) X.xe s
/-- a value's truth -/
def TruR (X : Cx) (r : V → Hp → (Bool → Hp → Prop) → Prop) : Prop :=
  ∀ (pins : List (Addr × Obj)) (s : Shared) (σ : St) (H : Hp) (x : V) (v : Value) (Q : Bool → Hp → Prop), Inv X pins σ H s → RelV x v → r x H Q →
    wpAny (model X.prog X.w) X.A (truthy v) (TP X pins σ Q) X.xe s

def tOp (r : R2) (ta tb : TE) : TE := fun σ H Q => ta σ H fun x H1 => tb σ H1 fun y H2 => r x y H2 Q
def tUn (r : V → Hp → VK → Prop) (ta : TE) : TE := fun σ H Q => ta σ H fun x H1 => r x H1 Q
/-- ints in, under C, and a value out -/
def rI (C : Int → Int → Prop) (g : Int → Int → V) : R2 := fun x y H Q => ∃ i j, x = .int i ∧ y = .int j ∧ C i j ∧ Q (g i j) H
def rI0 (g : Int → Int → V) : R2 := fun x y H Q => ∃ i j, x = .int i ∧ y = .int j ∧ Q (g i j) H
def rU (g : Int → V) : V → Hp → VK → Prop := fun x H Q => ∃ i, x = .int i ∧ Q (g i) H

section
variable {X : Cx} {a b c : Expr} {ta tb tc : TE} {pos : Pos}

theorem binT (ha : PE X a ta) (hb : PE X b tb) {pins : List (Addr × Obj)} {s : Shared} {σ : St} {H : Hp} {R : V → V → Hp → Prop} (I : Inv X pins σ H s)
    (h : ta σ H fun x H1 => tb σ H1 fun y H2 => R x y H2) {Q : Value → Shared → Prop} {f : Value → Value → Sem Value}
    (hf : ∀ v u s2 x y H2, Inv X pins σ H2 s2 → RelV x v → RelV y u → R x y H2 → wpAny (model X.prog X.w) X.A (f v u) Q X.xe s2) :
    wpAny (model X.prog X.w) X.A (eval a X.env) (fun v s₁ => wpAny (model X.prog X.w) X.A (eval b X.env) (fun u s₂ => wpAny (model X.prog X.w) X.A (f v u) Q X.xe s₂) X.xe s₁) X.xe s := by
  refine thn (ha pins s σ H _ I h) fun v s1 ⟨x, H1, I1, r1, q1⟩ => ?_
  refine thn (hb pins s1 σ H1 _ I1 q1) fun u s2 ⟨y, H2, I2, r2, q2⟩ => ?_
  exact hf v u s2 x y H2 I2 r1 r2 q2

theorem pe_op {op : Operator} {r : R2} (ho : OpR X (binaryOp op) r) (ha : PE X a ta) (hb : PE X b tb) : PE X (.BinOp a op b pos) (tOp r ta tb) := by
  intro pins s σ H Q I h
  exact wpAny_BinOp (binT ha hb I h fun v u s2 x y H2 I2 rx ry q => ho pins s2 σ H2 x y v u Q I2 rx ry q)
theorem pe_un {op : UnaryOp} {r : V → Hp → VK → Prop} (ho : UnR X (unaryOp op) r) (ha : PE X a ta) : PE X (.UnaryOp op a pos) (tUn r ta) := by
  intro pins s σ H Q I h
  exact UnaryOp_ (thn (ha pins s σ H _ I h) fun v s1 ⟨x, H1, I1, r1, q1⟩ => ho pins s1 σ H1 x v Q I1 r1 q1)
/-! ### ints -/
theorem opI {f : Value → Value → Sem Value} {C : Int → Int → Prop} {g : Int → Int → Int}
    (rule : ∀ (i j : Int) (t u : Tok) (s : Shared) (Q : Value → Shared → Prop) (E : Value → Shared → Prop), C i j → Q (.int (g i j) s.toks) { s with toks := s.toks + 1 } → wpAny (model X.prog X.w) X.A (f (.int i t) (.int j u)) Q E s) :
    OpR X f (rI C fun i j => .int (g i j)) := by
  intro pins s σ H x y v u Q I rx ry h
  obtain ⟨i, j, rfl, rfl, hc, q⟩ := h
  obtain ⟨t, rfl⟩ := rx
  obtain ⟨t', rfl⟩ := ry
  exact rule i j t t' s _ _ hc ⟨.int (g i j), H, I.tok _, ⟨_, rfl⟩, q⟩
theorem opI0 {f : Value → Value → Sem Value} {g : Int → Int → Int}
    (rule : ∀ (i j : Int) (t u : Tok) (s : Shared) (Q : Value → Shared → Prop) (E : Value → Shared → Prop), Q (.int (g i j) s.toks) { s with toks := s.toks + 1 } → wpAny (model X.prog X.w) X.A (f (.int i t) (.int j u)) Q E s) :
    OpR X f (rI0 fun i j => .int (g i j)) := by
  intro pins s σ H x y v u Q I rx ry h
  obtain ⟨i, j, rfl, rfl, q⟩ := h
  obtain ⟨t, rfl⟩ := rx
  obtain ⟨t', rfl⟩ := ry
  exact rule i j t t' s _ _ ⟨.int (g i j), H, I.tok _, ⟨_, rfl⟩, q⟩
theorem opB0 {f : Value → Value → Sem Value} {g : Int → Int → Bool}
    (rule : ∀ (i j : Int) (t u : Tok) (s : Shared) (Q : Value → Shared → Prop) (E : Value → Shared → Prop), Q (.bool (g i j)) s → wpAny (model X.prog X.w) X.A (f (.int i t) (.int j u)) Q E s) :
    OpR X f (rI0 fun i j => .bl (g i j)) := by
  intro pins s σ H x y v u Q I rx ry h
  obtain ⟨i, j, rfl, rfl, q⟩ := h
  obtain ⟨t, rfl⟩ := rx
  obtain ⟨t', rfl⟩ := ry
  exact rule i j t t' s _ _ ⟨.bl (g i j), H, I, rfl, q⟩

def CDiv (i j : Int) : Prop := 0 < j ∧ j < 1073741824
def CDivN (i j : Int) : Prop := j ≠ 0 ∧ j.natAbs < 1073741824
def CPow (i j : Int) : Prop := 0 ≤ j ∧ j ≤ 1000000 ∧ i.natAbs < 2 ^ 64
def CMul (i j : Int) : Prop := (-(2 ^ 64) < i ∧ i < 2 ^ 64) ∨ (-(2 ^ 64) < j ∧ j < 2 ^ 64)
theorem CMul.ok {i j : Int} (h : CMul i j) : IntMulOk i j := by
  rcases h with ⟨h1, h2⟩ | ⟨h1, h2⟩
  · exact .of_left (intBits_le_64 h1 h2)
  · exact .of_right (intBits_le_64 h1 h2)
theorem op_add : OpR X (binaryOp .Add) (rI0 fun i j => .int (i + j)) := opI0 fun _ _ _ _ _ _ _ q => add_int q
theorem op_sub : OpR X (binaryOp .Sub) (rI0 fun i j => .int (i - j)) := opI0 fun _ _ _ _ _ _ _ q => sub_int q
theorem op_mul : OpR X (binaryOp .Mult) (rI CMul fun i j => .int (i * j)) := opI fun _ _ _ _ _ _ _ hc q => mul_int q hc.ok
/-- // by a positive divisor -/
theorem op_fdiv : OpR X (binaryOp .FloorDiv) (rI CDiv fun i j => .int (i / j)) := opI fun i j _ _ _ _ _ hc q => by
  have h1 : (0 : Int) < j := hc.1
  have h2 : j < 1073741824 := hc.2
  exact floordiv_int (by omega) (by rw [Int.fdiv_eq_ediv_of_nonneg i (by omega)]; exact q) (.inl (PyProof.noPylong_small (by omega)))
/-- % by a positive divisor of any size -/
theorem op_mod : OpR X (binaryOp .Mod) (rI (fun _ j => 0 < j) fun i j => .int (i % j)) := opI fun i j _ _ _ _ _ hc q => by
  have h1 : (0 : Int) < j := hc
  exact mod_int' (by omega) (by rw [Int.fmod_eq_emod_of_nonneg i (by omega)]; exact q)
theorem op_pow : OpR X (binaryOp .Pow) (rI CPow fun i j => .int (i ^ j.toNat)) := opI fun _ _ _ _ _ _ _ hc q => pow_int_small hc.1 hc.2.1 hc.2.2 q
theorem unI {f : Value → Sem Value} {g : Int → Int}
    (rule : ∀ (i : Int) (t : Tok) (s : Shared) (Q : Value → Shared → Prop) (E : Value → Shared → Prop), Q (.int (g i) s.toks) { s with toks := s.toks + 1 } → wpAny (model X.prog X.w) X.A (f (.int i t)) Q E s) :
    UnR X f (rU fun i => .int (g i)) := by
  intro pins s σ H x v Q I rx h
  obtain ⟨i, rfl, q⟩ := h
  obtain ⟨t, rfl⟩ := rx
  exact rule i t s _ _ ⟨.int (g i), H, I.tok _, ⟨_, rfl⟩, q⟩
theorem un_neg : UnR X (unaryOp .USub) (rU fun i => .int (-i)) := unI fun _ _ _ _ _ q => neg_int q
/-! ### bools among ints: n += (a < b) -/
end

/-! ### comparisons -/
/-- the scalars that == tells apart as data does -/
def scal : V → V → Bool
  | .non, .non => true | .non, .int _ => true | .int _, .non => true | .non, .bl _ => true | .bl _, .non => true | .non, .str _ => true | .str _, .non => true
  | .int _, .int _ => true | .bl _, .bl _ => true | .str _, .str _ => true | .byt _, .byt _ => true
  | .int _, .str _ => true | .str _, .int _ => true | .bl _, .str _ => true | .str _, .bl _ => true
  | _, _ => false
def rEq : R2 := fun x y H Q => scal x y = true ∧ Q (.bl (decide (x = y))) H
def rNe : R2 := fun x y H Q => scal x y = true ∧ Q (.bl (!decide (x = y))) H

theorem dec_int {i j : Int} : decide (V.int i = V.int j) = (i == j) := by
  rw [Bool.eq_iff_iff]
  simp
theorem dec_bl {i j : Bool} : decide (V.bl i = V.bl j) = (i == j) := by
  rw [Bool.eq_iff_iff]
  simp
theorem dec_str {i j : Str} : decide (V.str i = V.str j) = (i == j) := by
  rw [Bool.eq_iff_iff]
  simp
theorem dec_byt {i j : Array UInt8} : decide (V.byt i = V.byt j) = (i.toList == j.toList) := by
  rw [Bool.eq_iff_iff]
  cases i
  cases j
  simp

section
variable {X : Cx} {a b c : Expr} {ta tb tc : TE} {pos : Pos}
theorem fin_bl {pins : List (Addr × Obj)} {σ : St} {H : Hp} {s : Shared} {Q : VK} {k k' : Bool} (I : Inv X pins σ H s) (q : Q (.bl k) H) (e : k = k') : EP X pins σ Q (.bool k') s := by
  subst e
  exact ⟨.bl k, H, I, rfl, q⟩
theorem op_eq : OpR X (compareOp .Eq) rEq := by
  intro pins s σ H x y v u Q I rx ry h
  obtain ⟨hs, q⟩ := h
  cases x with
  | non =>
    cases rx
    cases y with
    | non => cases ry; exact PySem.EqNone.eq_none_none (fin_bl I q (by simp))
    | bl j => cases ry; exact PySem.EqNone.eq_none_bool (fin_bl I q (by simp))
    | int j => obtain ⟨t', rfl⟩ := ry; exact PySem.EqNone.eq_none_int (fin_bl I q (by simp))
    | str j => obtain ⟨t', rfl⟩ := ry; exact PySem.EqNone.eq_none_str (fin_bl I q (by simp))
    | _ => exact absurd (show false = true from hs) Bool.false_ne_true
  | bl i =>
    cases rx
    cases y with
    | non => cases ry; exact PySem.EqNone.eq_bool_none (fin_bl I q (by simp))
    | bl j => cases ry; exact eq_bool (fin_bl I q dec_bl)
    | str j => obtain ⟨t', rfl⟩ := ry; exact PySem.EqMixed.eq_bool_str (fin_bl I q (by simp))
    | _ => exact absurd (show false = true from hs) Bool.false_ne_true
  | int i =>
    obtain ⟨t, rfl⟩ := rx
    cases y with
    | non => cases ry; exact PySem.EqNone.eq_int_none (fin_bl I q (by simp))
    | int j => obtain ⟨t', rfl⟩ := ry; exact eq_int (fin_bl I q dec_int)
    | str j => obtain ⟨t', rfl⟩ := ry; exact PySem.EqMixed.eq_int_str (fin_bl I q (by simp))
    | _ => exact absurd (show false = true from hs) Bool.false_ne_true
  | str i =>
    obtain ⟨t, rfl⟩ := rx
    cases y with
    | non => cases ry; exact PySem.EqNone.eq_str_none (fin_bl I q (by simp))
    | bl j => cases ry; exact PySem.EqMixed.eq_str_bool (fin_bl I q (by simp))
    | int j => obtain ⟨t', rfl⟩ := ry; exact PySem.EqMixed.eq_str_int (fin_bl I q (by simp))
    | str j => obtain ⟨t', rfl⟩ := ry; exact eq_str (fin_bl I q dec_str)
    | _ => exact absurd (show false = true from hs) Bool.false_ne_true
  | byt i =>
    obtain ⟨t, rfl⟩ := rx
    cases y with
    | byt j => obtain ⟨t', rfl⟩ := ry; exact PySem.W.eq_bytes (fin_bl I q dec_byt)
    | _ => exact absurd (show false = true from hs) Bool.false_ne_true
  | _ => cases y <;> exact absurd (show false = true from hs) Bool.false_ne_true
theorem op_ne : OpR X (compareOp .NotEq) rNe := by
  intro pins s σ H x y v u Q I rx ry h
  obtain ⟨hs, q⟩ := h
  cases x with
  | non =>
    cases rx
    cases y with
    | non => cases ry; exact PySem.EqNone.ne_none_none (fin_bl I q (by simp))
    | bl j => cases ry; exact PySem.EqNone.ne_none_bool (fin_bl I q (by simp))
    | int j => obtain ⟨t', rfl⟩ := ry; exact PySem.EqNone.ne_none_int (fin_bl I q (by simp))
    | str j => obtain ⟨t', rfl⟩ := ry; exact PySem.EqNone.ne_none_str (fin_bl I q (by simp))
    | _ => exact absurd (show false = true from hs) Bool.false_ne_true
  | bl i =>
    cases rx
    cases y with
    | non => cases ry; exact PySem.EqNone.ne_bool_none (fin_bl I q (by simp))
    | bl j => cases ry; exact ne_bool (fin_bl I q (congrArg not dec_bl))
    | str j => obtain ⟨t', rfl⟩ := ry; exact PySem.EqMixed.ne_bool_str (fin_bl I q (by simp))
    | _ => exact absurd (show false = true from hs) Bool.false_ne_true
  | int i =>
    obtain ⟨t, rfl⟩ := rx
    cases y with
    | non => cases ry; exact PySem.EqNone.ne_int_none (fin_bl I q (by simp))
    | int j => obtain ⟨t', rfl⟩ := ry; exact ne_int (fin_bl I q (congrArg not dec_int))
    | str j => obtain ⟨t', rfl⟩ := ry; exact PySem.EqMixed.ne_int_str (fin_bl I q (by simp))
    | _ => exact absurd (show false = true from hs) Bool.false_ne_true
  | str i =>
    obtain ⟨t, rfl⟩ := rx
    cases y with
    | non => cases ry; exact PySem.EqNone.ne_str_none (fin_bl I q (by simp))
    | bl j => cases ry; exact PySem.EqMixed.ne_str_bool (fin_bl I q (by simp))
    | int j => obtain ⟨t', rfl⟩ := ry; exact PySem.EqMixed.ne_str_int (fin_bl I q (by simp))
    | str j => obtain ⟨t', rfl⟩ := ry; exact ne_str (fin_bl I q (congrArg not dec_str))
    | _ => exact absurd (show false = true from hs) Bool.false_ne_true
  | byt i =>
    obtain ⟨t, rfl⟩ := rx
    cases y with
    | byt j => obtain ⟨t', rfl⟩ := ry; exact PySem.W.ne_bytes (fin_bl I q (congrArg not dec_byt))
    | _ => exact absurd (show false = true from hs) Bool.false_ne_true
  | _ => cases y <;> exact absurd (show false = true from hs) Bool.false_ne_true

theorem op_lt : OpR X (compareOp .Lt) (rI0 fun i j => .bl (decide (i < j))) := opB0 fun _ _ _ _ _ _ _ q => lt_int q
theorem op_gt : OpR X (compareOp .Gt) (rI0 fun i j => .bl (decide (j < i))) := opB0 fun _ _ _ _ _ _ _ q => gt_int q
theorem op_ge : OpR X (compareOp .GtE) (rI0 fun i j => .bl (decide (j ≤ i))) := opB0 fun _ _ _ _ _ _ _ q => ge_int q
/-- is None, is not None: the right side a value none -/
theorem op_isN : OpR X (compareOp .Is) (fun x y H Q => y = .non ∧ Q (.bl (decide (x = .non))) H) := by
  intro pins s σ H x y v u Q I rx ry h
  obtain ⟨rfl, q⟩ := h
  cases ry
  refine is_none_gen (fin_bl I q ?_)
  cases x <;> first
    | (cases rx; rfl)
    | (obtain ⟨t, rfl⟩ := rx; rfl)
/-- is, is not of two objects that are tracked lists or instances -/
def isObj : HO → Bool
  | .lst _ => true
  | .ins _ _ _ => true
  | _ => false
theorem nomark (b : Expr) {op : CmpOp} (h : op ≠ .In := by decide) (h2 : op ≠ .NotIn := by decide) : behindInMarks op b = false := by
  have e1 : (op == CmpOp.In) = false := by cases op <;> first | rfl | exact absurd rfl h
  have e2 : (op == CmpOp.NotIn) = false := by cases op <;> first | rfl | exact absurd rfl h2
  cases b <;> simp [behindInMarks, e1, e2]
/-- a comparison as a value; hm: nomark b, or (for in, not in) by with_unfolding_all rfl -/
theorem pe_cmpR {op : CmpOp} {r : R2} (ho : OpR X (compareOp op) r) (ha : PE X a ta) (hb : PE X b tb) (hm : behindInMarks op b = false) : PE X (.Compare a [op] [b] pos) (tOp r ta tb) := by
  intro pins s σ H Q I h
  exact wpAny_Compare1 (binT ha hb I h fun v u s2 x y H2 I2 rx ry q => ho pins s2 σ H2 x y v u Q I2 rx ry q) hm
/-- a reading of a value as a test -/
def tTest (t : TE) : TT := fun σ H Q => t σ H fun x H' => ∃ k, x = .bl k ∧ Q k H'
theorem pt_cmpR {op : CmpOp} {r : R2} (ho : OpR X (compareOp op) r) (ha : PE X a ta) (hb : PE X b tb) (hm : behindInMarks op b = false) : PT X (.Compare a [op] [b] pos) (tTest (tOp r ta tb)) := by
  intro pins s σ H Q I h
  refine wpAny_isTrue_Compare1 (thn (ha pins s σ H _ I h) fun v s1 ⟨x, H1, I1, r1, q1⟩ => thn (hb pins s1 σ H1 _ I1 q1) fun u s2 ⟨y, H2, I2, r2, q2⟩ =>
    thn (ho pins s2 σ H2 x y v u _ I2 r1 r2 q2) fun c s3 ⟨z, H3, I3, r3, k, e, q3⟩ => ?_) hm
  subst e
  cases r3
  exact wpAny_truthy_bool ⟨H3, I3, q3⟩
/-- a op1 b op2 c -/
def tChain (r r' : R2) (ta tb tc : TE) : TE := fun σ H Q => ta σ H fun x H1 => tb σ H1 fun y H2 => r x y H2 fun z H3 => ∃ k, z = .bl k ∧
  (if k = true then tc σ H3 fun w' H4 => r' y w' H4 Q else Q (.bl false) H3)
/-! ### truth -/
/-- a value's truth by the abstract heap -/
def TruV (K : PySem.W.Frag) (x : V) (H : Hp) (k : Bool) : Prop :=
  match x with
  | .non => k = false
  | .bl b => k = b
  | .int i => k = (i != 0)
  | .str y => y.length ≤ sizeLine ∧ k = ((y.length : Int) != 0)
  | .byt y => y.size ≤ sizeLine ∧ k = ((y.size : Int) != 0)
  | .ref p => (∃ xs, SqL K H p xs ∧ k = !xs.isEmpty) ∨ (∃ xs, SqT K H p xs ∧ k = !xs.isEmpty) ∨ ∃ kvs, H p = some (.dK kvs) ∧ k = !kvs.isEmpty
  | _ => False
theorem isEmpty_kv {κ : Type} {kvs : List (κ × V)} {vs : List (κ × Value)} (r : KV kvs vs) : (!vs.isEmpty) = !kvs.isEmpty := by
  cases r <;> rfl
theorem isEmpty_of {xs : List V} {its : List Value} (r : Vals xs its) : (!its.toArray.isEmpty) = !xs.isEmpty := by
  cases r <;> simp
theorem line63 : (sizeLine : Nat) < 2 ^ 63 := by rw [sizeLine_eq]; decide
theorem tru_ok : TruR X (fun x H Q => ∃ k, TruV X.K x H k ∧ Q k H) := by
  intro pins s σ H x v Q I rx h
  obtain ⟨k, e, q⟩ := h
  have hl := line63
  have hs : sizeLine = 16777216 := sizeLine_eq
  cases x with
  | non =>
    cases rx
    have e' : k = false := e
    subst e'
    exact truthy_none ⟨H, I, q⟩
  | bl b =>
    cases rx
    have e' : k = b := e
    subst e'
    exact wpAny_truthy_bool ⟨H, I, q⟩
  | int i =>
    obtain ⟨t, rfl⟩ := rx
    have e' : k = (i != 0) := e
    subst e'
    exact PySem.P.truthy_int ⟨H, I, q⟩
  | str y =>
    obtain ⟨t, rfl⟩ := rx
    obtain ⟨hy, e'⟩ : y.length ≤ sizeLine ∧ k = ((y.length : Int) != 0) := e
    subst e'
    exact PySem.P.truthy_str (by omega) ⟨H, I.tok _, q⟩
  | byt y =>
    obtain ⟨t, rfl⟩ := rx
    obtain ⟨hy, e'⟩ : y.size ≤ sizeLine ∧ k = ((y.size : Int) != 0) := e
    subst e'
    exact PySem.W.truthy_bytes (by omega) ⟨H, I.tok _, q⟩
  | ref p =>
    cases rx
    have e' : (∃ xs, SqL X.K H p xs ∧ k = !xs.isEmpty) ∨ (∃ xs, SqT X.K H p xs ∧ k = !xs.isEmpty) ∨ ∃ kvs, H p = some (.dK kvs) ∧ k = !kvs.isEmpty := e
    rcases e' with ⟨xs, hx, e'⟩ | ⟨xs, hx, e'⟩ | ⟨kvs, hx, e'⟩
    · subst e'
      obtain ⟨its, r, pl, hz⟩ := I.list hx
      have hlen := r.length
      exact wpAny_truthy_list pl.isList (by simp only [List.size_toArray]; omega) ⟨H, I.tok _, by rw [isEmpty_of r]; exact q⟩
    · subst e'
      obtain ⟨its, r, pl, hz⟩ := I.tuple hx
      have hlen := r.length
      exact truthy_tuple pl (by simp only [List.size_toArray]; omega) ⟨H, I.tok _, by rw [isEmpty_of r]; exact q⟩
    · subst e'
      obtain ⟨hz, hS, vs, r, m⟩ : kvs.length ≤ sizeLine ∧ (p == sysModules) = false ∧ ∃ vs, KV kvs vs ∧ s.heap.DictOf (mixKind X.prog X.w) p vs := I.hok p _ hx
      have hlen : kvs.length = vs.length := Paired.length r
      exact wpAny_truthy_dict hS m (by omega) ⟨H, I.tok _, by rw [isEmpty_kv r]; exact q⟩
  | _ => exact (show False from e).elim
/-- any expression whose test is its value's truth (a name, a call, a subscript, a field ..: he by fun _ => rfl) -/
theorem pt_truth (ha : PE X a ta) (he : ∀ whole, isTrue a X.env whole = (do let v ← whole; standAt a.pos; holding [v] (truthy v))) :
    PT X a (fun σ H Q => ta σ H fun x H' => ∃ k, TruV X.K x H' k ∧ Q k H') := by
  intro pins s σ H Q I h
  exact isTrue_plain (thn (ha pins s σ H _ I h) fun v s1 ⟨x, H1, I1, r1, q1⟩ => tru_ok pins s1 σ H1 x v Q I1 r1 q1) (he _)

/-! ### strs and bytes -/
theorem op_add_str : OpR X (binaryOp .Add) (fun x y H Q => ∃ i j, x = .str i ∧ y = .str j ∧ i.length + j.length ≤ sizeLine ∧ Q (.str (i ++ j)) H) := by
  intro pins s σ H x y v u Q I rx ry h
  obtain ⟨i, j, rfl, rfl, hz, q⟩ := h
  obtain ⟨t, rfl⟩ := rx
  obtain ⟨t', rfl⟩ := ry
  exact add_str (fun t' tk => ⟨.str (i ++ j), H, I.tok _, ⟨_, rfl⟩, q⟩) hz
def PlainIxT (b : Expr) : Prop := ∀ o i, subscripted b false o i = operate [o, i] (getItem o i)
/-! ### scalar builtins, by CallR -/
theorem vals1 {x : V} {us : List Value} (r : Vals [x] us) : ∃ u, us = [u] ∧ RelV x u := by
  cases r with
  | cons r1 r2 => cases r2; exact ⟨_, rfl, r1⟩
theorem call_int1 : CallR X (.type "int") (fun xs H Q => (∃ i, xs = [.int i] ∧ Q (.int i) H) ∨ ∃ k, xs = [.bl k] ∧ Q (.int (if k then 1 else 0)) H) := by
  intro pins s σ H xs us Q I r h
  rcases h with ⟨i, rfl, q⟩ | ⟨k, rfl, q⟩
  · obtain ⟨u, rfl, t, rfl⟩ := vals1 r
    exact call_int_int ⟨.int i, H, I, ⟨_, rfl⟩, q⟩
  · obtain ⟨u, rfl, r1⟩ := vals1 r
    cases r1
    exact call_int_bool ⟨.int (if k then 1 else 0), H, I.tok _, ⟨_, rfl⟩, q⟩
/-- len of a str, a bytes, a list, a tuple -/
def LenV (K : PySem.W.Frag) (x : V) (H : Hp) (n : Nat) : Prop :=
  match x with
  | .str y => y.length ≤ sizeLine ∧ n = y.length
  | .byt y => y.size ≤ sizeLine ∧ n = y.size
  | .ref p => (∃ xs, SqL K H p xs ∧ n = xs.length) ∨ ∃ xs, SqT K H p xs ∧ n = xs.length
  | _ => False
theorem call_len : CallR X (.builtin "len") (fun xs H Q => ∃ x n, xs = [x] ∧ LenV X.K x H n ∧ Q (.int n) H) := by
  intro pins s σ H xs us Q I r h
  obtain ⟨x, n, rfl, e, q⟩ := h
  obtain ⟨u, rfl, rx⟩ := vals1 r
  have hl := line63
  have hs : sizeLine = 16777216 := sizeLine_eq
  cases x with
  | str y =>
    obtain ⟨t, rfl⟩ := rx
    obtain ⟨hy, e'⟩ : y.length ≤ sizeLine ∧ n = y.length := e
    subst e'
    exact len_str (by omega) ⟨.int _, H, I.tok _, ⟨_, rfl⟩, q⟩
  | byt y =>
    obtain ⟨t, rfl⟩ := rx
    obtain ⟨hy, e'⟩ : y.size ≤ sizeLine ∧ n = y.size := e
    subst e'
    exact PySem.W.len_bytes (by omega) ⟨.int _, H, I.tok _, ⟨_, rfl⟩, q⟩
  | ref p =>
    cases rx
    have e' : (∃ xs, SqL X.K H p xs ∧ n = xs.length) ∨ ∃ xs, SqT X.K H p xs ∧ n = xs.length := e
    rcases e' with ⟨xs, hx, e'⟩ | ⟨xs, hx, e'⟩
    · subst e'
      obtain ⟨its, r', pl, hz⟩ := I.list hx
      have hlen := r'.length
      exact Calls.call_len_list pl.isList (by simp only [List.size_toArray]; omega) ⟨.int xs.length, H, I.tok _, ⟨_, by simp only [List.size_toArray]; rw [hlen]⟩, q⟩
    · subst e'
      obtain ⟨its, r', pl, hz⟩ := I.tuple hx
      have hlen := r'.length
      exact len_tuple pl (by simp only [List.size_toArray]; omega) ⟨.int xs.length, H, I.tok _, ⟨_, by simp only [List.size_toArray]; rw [hlen]⟩, q⟩
  | _ => exact (show False from e).elim
end
end L2

namespace L2
open PySem PySem.Spec PyProof.Rows

/-! ### an instance, its attributes a map -/
structure ObjM (h : Heap) (x dx C : Addr) (mA : Str → Option Value) : Prop where
  obj : h.get? x = some (PySem.W.instObj C dx)
  ns : h.Ns1 dx mA
  ne : dx ≠ x

theorem lookIn_ns {h : Heap} {dx : Addr} {mA : Str → Option Value} (n : h.Ns1 dx mA) : ∃ od, h.get? dx = some od ∧ ∀ name, PySem.W.lookIn name od = some (mA name) := by
  obtain ⟨o, es, ep, ho, hd, hk, _, hm⟩ := n
  refine ⟨o, ho, fun name => ?_⟩
  have e := hm name
  unfold nsFind findBy at e
  rw [← Array.find?_toList] at e
  unfold PySem.W.lookIn
  rw [hd]
  dsimp only
  split
  · rename_i y q
    rw [q] at e
    exact congrArg some e
  · rename_i q
    rw [q] at e
    have a : es.toList.any (·.refKey) = false := by
      rw [List.any_eq_false]
      intro y hy
      obtain ⟨z, t, hkey⟩ := hk y (Array.mem_toList_iff.mp hy)
      simp [DictEntry.refKey, hkey]
    have a' : ¬ es.toList.any (·.refKey) = true := by rw [a]; exact Bool.false_ne_true
    rw [if_neg a']
    exact congrArg some e

theorem ObjM.look {h : Heap} {x dx C : Addr} {mA : Str → Option Value} (I : ObjM h x dx C mA) : ∃ od, PySem.W.InstAt h x (PySem.W.instObj C dx) C (some od) ∧ ∀ name, PySem.W.lookIn name od = some (mA name) :=
  let ⟨od, ho, hl⟩ := lookIn_ns I.ns
  ⟨od, ⟨I.obj, rfl, rfl, ho⟩, hl⟩

section
variable {prog : Program} {w : World} {A : Around} {E : Value → Shared → Prop} {s : Shared} {K : PySem.W.Frag} {x dx C f : Addr} {mA : Str → Option Value} {name : Str} {v : Value}

end

/-! ### the attributes as a list of pairs -/
def putF (f : Str) (v : V) : List (Str × V) → List (Str × V)
  | [] => [(f, v)]
  | (g, x) :: r => if g = f then (g, v) :: r else (g, x) :: putF f v r
theorem lookup_putF (f g : Str) (v : V) : ∀ fs : List (Str × V), (putF f v fs).lookup g = if g = f then some v else fs.lookup g
  | [] => by
    show List.lookup g [(f, v)] = _
    by_cases h : g = f
    · have hb : (g == f) = true := beq_iff_eq.mpr h
      simp only [List.lookup, hb, if_pos h]
    · have hb : (g == f) = false := beq_eq_false_iff_ne.mpr h
      simp only [List.lookup, hb, if_neg h]
  | (k, x) :: r => by
    have ih := lookup_putF f g v r
    rw [show putF f v ((k, x) :: r) = (if k = f then (k, v) :: r else (k, x) :: putF f v r) from rfl]
    by_cases hk : k = f
    · rw [if_pos hk]
      by_cases h : g = k
      · have hb : (g == k) = true := beq_iff_eq.mpr h
        simp only [List.lookup, hb, if_pos (h.trans hk)]
      · have hb : (g == k) = false := beq_eq_false_iff_ne.mpr h
        simp only [List.lookup, hb, if_neg (fun e : g = f => h (e.trans hk.symm))]
    · rw [if_neg hk]
      by_cases h : g = k
      · have hb : (g == k) = true := beq_iff_eq.mpr h
        simp only [List.lookup, hb, if_neg (fun e : g = f => hk (h.symm.trans e))]
      · have hb : (g == k) = false := beq_eq_false_iff_ne.mpr h
        simp only [List.lookup, hb]
        exact ih
theorem RelO.some_of {v : V} {o : Option Value} (r : RelO (some v) o) : ∃ u, o = some u ∧ RelV v u := by
  cases o with
  | none => exact (show False from r).elim
  | some u => exact ⟨u, rfl, r⟩
theorem RelO.none_of {o : Option Value} (r : RelO none o) : o = none := by
  cases o with
  | none => rfl
  | some u => exact (show False from r).elim
theorem handed_of {v : V} {u : Value} (r : RelV v u) : PySem.W.handedIn u = true := by
  cases v with
  | non => cases (show u = Value.none from r); rfl
  | bl b => cases (show u = Value.bool b from r); rfl
  | int i => obtain ⟨t, e⟩ := (show ∃ t, u = Value.int i t from r); cases e; rfl
  | str x => obtain ⟨t, e⟩ := (show ∃ t, u = Value.str x t from r); cases e; rfl
  | byt b => obtain ⟨t, e⟩ := (show ∃ t, u = Value.bytes b t from r); cases e; rfl
  | flt b => obtain ⟨t, e⟩ := (show ∃ t, u = Value.float b t from r); cases e; rfl
  | ref a => cases (show u = Value.ref a from r); rfl
  | ty n => cases (show u = Value.type n from r); rfl

section
variable {P : Program} {w : World} {H H' : Hp} {h h' : Heap} {a C dx : Addr} {fs fs' : List (Str × V)}
theorem ins_get (hok : HOk P w H h) (e : H a = some (.ins C dx fs)) : ∃ mA, ObjM h a dx C mA ∧ (∀ f, RelO (fs.lookup f) (mA f)) ∧ PySem.Within mA (fs.map (·.1)) ∧ fs.length ≤ 1000 ∧ H dx = some (.own a) := by
  obtain ⟨d, z, ne, ob, mA, n, r, q⟩ := (show ObjOk P w H h a (.ins C dx fs) from hok a _ e)
  exact ⟨mA, ⟨ob, n, ne⟩, r, q, z, d⟩
end

/-! ### what of the text a class must have -/
structure Cls (K : PySem.W.Frag) (C : Addr) : Prop where
  pg : PySem.W.plainGet K C Str.empty = true
  hd : PySem.W.hasDictIn K C = true
  po : PySem.W.plainOver K C = true
  sa : PySem.W.findIn K (.ref C) "__setattr__" = some (some (.builtin "object.__setattr__"))
theorem Cls.get {K : PySem.W.Frag} {C : Addr} (c : Cls K C) (f : Str) : PySem.W.plainGet K C f = true := c.pg
/-- no class of it has the name -/
def NoAttr (K : PySem.W.Frag) (C : Addr) (f : Str) : Prop := PySem.W.findIn K (.ref C) f = some none
/-- a constant of the class -/
structure Con (K : PySem.W.Frag) (C : Addr) (f : Str) (v : V) (u : Value) : Prop where
  at_ : PySem.W.findIn K (.ref C) f = some (some u)
  rel : RelV v u
  get : PySem.W.specialIn K u "__get__" = some none
  cp : PySem.W.copiedNames.contains f = false
/-- a method: a plain def of the class or of one above it -/
structure Meth (K : PySem.W.Frag) (C : Addr) (m : Str) (f : Addr) : Prop where
  at_ : PySem.W.findIn K (.ref C) m = some (some (.ref f))
  fn : PySem.W.isFn K (.ref f) = true
  kp : PySem.W.keepIn K (.ref f) = true

section
variable {X : Cx} {pins : List (Addr × Obj)} {σ : St} {H : Hp} {s : Shared} {a C dx : Addr} {fs : List (Str × V)} {f : Str} {v : V} {A : Around} {E : Value → Shared → Prop}

/-- e.f where nothing but the object is asked: through attributeBase (super) and the last hold -/
theorem attr_of {prog : Program} {w : World} {env : Env} {e : Expr} {f : Str} {pos : Pos} {s : Shared} {Q : Value → Shared → Prop} (hb : attributeBase e f env (eval e env) = eval e env)
    (h : wpAny (model prog w) A (eval e env) (fun o s₁ => wpAny (model prog w) A (getAttr o f true) Q E s₁) E s) : wpAny (model prog w) A (eval (.Attribute e f pos) env) Q E s :=
  Attribute_any_ h (by rw [arm_eval_Attribute, hb])
end

/-! ### readings and rules -/
/-- e.f, an attribute of the instance -/
def tFld (K : PySem.W.Frag) (ta : TE) (f : Str) : TE := fun σ H Q => ta σ H fun x H1 => ∃ a C dx fs v, x = .ref a ∧ H1 a = some (.ins C dx fs) ∧ Cls K C ∧ NoAttr K C f ∧ fs.lookup f = some v ∧ Q v H1
/-- e.f, a constant of the class -/
def tCon (K : PySem.W.Frag) (ta : TE) (f : Str) : TE := fun σ H Q => ta σ H fun x H1 => ∃ a C dx fs v u, x = .ref a ∧ H1 a = some (.ins C dx fs) ∧ Cls K C ∧ Con K C f v u ∧ fs.lookup f = none ∧ Q v H1
/-- e.f = value -/
def sFld (K : PySem.W.Frag) (ta tv : TE) (f : Str) : TS := fun D σ H => tv σ H fun y H1 => ta σ H1 fun x H2 => ∃ a C dx fs, x = .ref a ∧ H2 a = some (.ins C dx fs) ∧ Cls K C ∧ NoAttr K C f ∧ fs.length < 1000 ∧
  D.nx σ (upd H2 a (.ins C dx (putF f y fs)))
/-- an augmented operator on two values -/
def InOp (X : Cx) (op : Operator) (rd : V → V → Hp → VK → Prop) : Prop :=
  ∀ (pins : List (Addr × Obj)) (s : Shared) (σ : St) (H : Hp) (x y : V) (u v : Value) (Q : VK), Inv X pins σ H s → RelV x u → RelV y v → rd x y H Q → wpAny (model X.prog X.w) X.A (inplaceOp op u v) (EP X pins σ Q) X.xe s
/-- e.f op= value -/
def sFldAug (K : PySem.W.Frag) (ta tv : TE) (rd : V → V → Hp → VK → Prop) (f : Str) : TS := fun D σ H => ta σ H fun x H1 => ∃ a C dx fs v, x = .ref a ∧ H1 a = some (.ins C dx fs) ∧ Cls K C ∧ NoAttr K C f ∧ fs.lookup f = some v ∧
  tv σ H1 fun y H2 => rd v y H2 fun z H3 => ∃ dx' fs', H3 a = some (.ins C dx' fs') ∧ fs'.length < 1000 ∧ D.nx σ (upd H3 a (.ins C dx' (putF f z fs')))

section
variable {X : Cx} {o e value : Expr} {f : Str} {pos pos' tpos : Pos} {ta tv : TE}
def rAdd : V → V → Hp → VK → Prop := fun x y H Q => ∃ i j, x = .int i ∧ y = .int j ∧ Q (.int (i + j)) H
def rSub : V → V → Hp → VK → Prop := fun x y H Q => ∃ i j, x = .int i ∧ y = .int j ∧ Q (.int (i - j)) H
end

/-! ### isinstance -/
section
variable {X : Cx} {pins : List (Addr × Obj)} {σ : St} {H : Hp} {s : Shared} {A : Around} {E : Value → Shared → Prop} {Q : Value → Shared → Prop} {c : Value} {b : Bool}
/-- the type of a value, as the fragment's deciders take it; for an instance its class -/
inductive TyOf (K : PySem.W.Frag) (H : Hp) : V → Value → Prop where
  | non : TyOf K H .non (.type "NoneType")
  | bl (x : Bool) : TyOf K H (.bl x) (.type "bool")
  | int (i : Int) : TyOf K H (.int i) (.type "int")
  | str (x : Str) : TyOf K H (.str x) (.type "str")
  | flt (x : UInt64) : TyOf K H (.flt x) (.type "float")
  | lst {a : Addr} {xs : List V} (e : H a = some (.lst xs)) : TyOf K H (.ref a) (.type "list")
  | frz {a : Addr} {o : Obj} {xs : List V} (e : H a = some (.frz o (.lst xs))) : TyOf K H (.ref a) (.type "list")
  | tup {a : Addr} {xs : List V} (e : H a = some (.tup xs)) : TyOf K H (.ref a) (.type "tuple")
  | dK {a : Addr} {kvs : List (Key × V)} (e : H a = some (.dK kvs)) : TyOf K H (.ref a) (.type "dict")
  | dT {a : Addr} {kvs : List (List Key × V)} (e : H a = some (.dT kvs)) : TyOf K H (.ref a) (.type "dict")
  | ins {a C dx : Addr} {fs : List (Str × V)} (e : H a = some (.ins C dx fs)) (cl : Cls K C) (ha : PySem.W.findIn K (.ref C) "__class__" = some (some (.builtin "object.__class__")))
      (hn : PySem.W.specialIn K (.builtin "object.__class__") "__get__" = some (some (.builtin "getset_descriptor.__get__"))) (htk : PySem.W.takesIn K (.builtin "object.__class__") = some true)
      (hm : PySem.W.mroIn K C (.type "object") = some true) : TyOf K H (.ref a) (.ref C)
/-- isinstance(x, c) for one class c, a built-in or an own one: kitOne's answer -/
theorem isinst_ok {x : V} {u t : Value} (I : Inv X pins σ H s) (rx : RelV x u) (ty : TyOf X.K H x t) (e : PySem.W.kitOne X.K t c = some b) (h : ∀ tk, Q (.bool b) { s with toks := tk }) :
    wpAny (model X.prog X.w) A (call (.builtin "isinstance") [u, c]) Q E s := by
  cases ty with
  | non => cases (show u = Value.none from rx); exact PySem.W.kia_one PySem.W.kitx_none I.kIn True.intro e (fun z => nomatch z) h
  | bl y => cases (show u = Value.bool y from rx); exact PySem.W.kia_one PySem.W.kitx_bool I.kIn True.intro e (fun z => nomatch z) h
  | int i => obtain ⟨t, q⟩ := (show ∃ t, u = Value.int i t from rx); cases q; exact PySem.W.kia_one PySem.W.kitx_int I.kIn True.intro e (fun z => nomatch z) h
  | str y => obtain ⟨t, q⟩ := (show ∃ t, u = Value.str y t from rx); cases q; exact PySem.W.kia_one PySem.W.kitx_str I.kIn True.intro e (fun z => nomatch z) h
  | flt y => obtain ⟨t, q⟩ := (show ∃ t, u = Value.float y t from rx); cases q; exact PySem.W.kia_one PySem.W.kitx_float I.kIn True.intro e (fun z => nomatch z) h
  | @lst a xs ea =>
    cases (show u = Value.ref a from rx)
    obtain ⟨_, _, n, _, h1⟩ := (show ObjOk X.prog X.w H s.heap a (.lst xs) from I.hok a _ ea)
    exact PySem.W.kia_one PySem.W.kitx_list I.kIn ⟨_, h1, rfl⟩ e (fun z => nomatch z) h
  | @frz a ob xs ea =>
    cases (show u = Value.ref a from rx)
    obtain ⟨_, _, _, n, _, h1⟩ := (show ObjOk X.prog X.w H s.heap a (.frz ob (.lst xs)) from I.hok a _ ea)
    exact PySem.W.kia_one PySem.W.kitx_list I.kIn ⟨_, h1, rfl⟩ e (fun z => nomatch z) h
  | @tup a xs ea =>
    cases (show u = Value.ref a from rx)
    obtain ⟨_, _, _, p⟩ := (show ObjOk X.prog X.w H s.heap a (.tup xs) from I.hok a _ ea)
    obtain ⟨o, h1, h2, _⟩ := p
    exact PySem.W.kia_one PySem.W.kitx_tuple I.kIn ⟨o, h1, h2⟩ e (fun z => nomatch z) h
  | @dK a kvs ea =>
    cases (show u = Value.ref a from rx)
    obtain ⟨_, _, vs, _, p⟩ := (show ObjOk X.prog X.w H s.heap a (.dK kvs) from I.hok a _ ea)
    obtain ⟨o, es, ep, h1, h2, _⟩ := p
    exact PySem.W.kia_one PySem.W.kitx_dict I.kIn ⟨o, h1, h2.1⟩ e (fun z => nomatch z) h
  | @dT a kvs ea =>
    cases (show u = Value.ref a from rx)
    obtain ⟨_, _, xs, _, o, es, ep, h1, h2, _⟩ := (show ObjOk X.prog X.w H s.heap a (.dT kvs) from I.hok a _ ea)
    exact PySem.W.kia_one PySem.W.kitx_dict I.kIn ⟨o, h1, h2.1⟩ e (fun z => nomatch z) h
  | @ins a C dx fs ea cl ha hn htk hm =>
    cases (show u = Value.ref a from rx)
    obtain ⟨mA, O, _⟩ := ins_get I.hok ea
    obtain ⟨od, J, _⟩ := O.look
    exact PySem.W.kia_one (PySem.W.kitx_own (cl.get _) cl.hd ha hn htk hm) I.kIn J e (fun z => nomatch z) h
end
end L2

namespace L2
open PySem PySem.Spec PyProof.Rows

/-! ### room -/
structure Room (k : Nat) (A : Around) : Prop where
  hd : A.handled = none
  dp : A.depth + 3 * k + 5 < recursionLimit
  un : A.units + 16 * k + 200 < cLine
  gd : A.guards = some []
theorem Room.mono {j k : Nat} {A : Around} (r : Room k A) (h : j ≤ k) : Room j A := ⟨r.hd, by have := r.dp; omega, by have := r.un; omega, r.gd⟩
theorem Room.deeper {k : Nat} {A : Around} (r : Room (k + 1) A) (env : Env) : Room k (A.deeper env) :=
  ⟨r.hd, by have := r.dp; show A.depth + 1 + 3 * k + 5 < _; omega, by have := r.un; show A.units + 3 + 16 * k + 200 < _; omega, r.gd⟩
theorem make_depth {A : Around} {C : Addr} {us : List Value} {kw : List (Str × Value)} : (A.under (.builtin "type.__call__" ⟨.ref C :: us, kw⟩)).depth = A.depth + 1 := by
  first | rfl | simp [Around.under, Code.weight, Code.isCreation, Code.isGuard, Code.isCaller, Code.frames, Code.isFrame, guardIds]
theorem make_units {A : Around} {C : Addr} {us : List Value} {kw : List (Str × Value)} : (A.under (.builtin "type.__call__" ⟨.ref C :: us, kw⟩)).units = A.units + 1 := by
  first | rfl | simp [Around.under, Code.cUnits, Code.frames, Code.isFrame]
theorem Room.make {k : Nat} {A : Around} (r : Room (k + 1) A) (C : Addr) (us : List Value) (kw : List (Str × Value)) : Room k (A.under (.builtin "type.__call__" ⟨.ref C :: us, kw⟩)) :=
  ⟨r.hd, by have := r.dp; rw [make_depth]; omega, by have := r.un; rw [make_units]; omega, by first | exact r.gd | (simpa [Around.under, Code.guards, Code.isGuard, pushGuards, guardIds] using r.gd)⟩
theorem Room.depth {k : Nat} {A : Around} (r : Room k A) : A.depth < recursionLimit := by have := r.dp; omega
theorem Room.units {k : Nat} {A : Around} (r : Room k A) : A.units + 64 < cLine := by have := r.un; omega
/-! ### argument lists and displays -/
def tNil : TA := fun _ H Q => Q [] H
def tCons (ta : TE) (tr : TA) : TA := fun σ H Q => ta σ H fun x H1 => tr σ H1 fun xs H2 => Q (x :: xs) H2
section
variable {X : Cx} {e : Expr} {es : List Expr} {te : TE} {t : TA} {pos : Pos}
theorem pa_nil : PA X [] tNil := fun _ _ _ _ H Q I h => Calls.spliced_nil ⟨[], H, I, .nil, h⟩
theorem pa_cons (ha : PE X e te) (hr : PA X es t) (hs : starEach (e :: es) X.env = (false, eval e X.env) :: starEach es X.env := by rfl) : PA X (e :: es) (tCons te t) := by
  intro pos pins s σ H Q I h
  rw [hs]
  show wpAny _ _ (spliced ((false, eval e X.env) :: backTo pos (starEach es X.env))) _ _ s
  refine Calls.spliced_cons (thn (ha pins s σ H _ I h) fun u s1 ⟨x, H1, I1, r1, q1⟩ => ?_)
  exact thn (hr pos pins s1 σ H1 _ I1 q1) fun us s2 ⟨xs, H2, I2, r2, q2⟩ => ⟨x :: xs, H2, I2, .cons r1 r2, q2⟩

/-- a tuple, a list of written items -/
def tTup (t : TA) : TE := fun σ H Q => t σ H fun xs H1 => xs.length ≤ sizeLine ∧ ∀ p, H1 p = none → Q (.ref p) (upd H1 p (.tup xs))
def tLst (t : TA) : TE := fun σ H Q => t σ H fun xs H1 => xs.length ≤ sizeLine ∧ ∀ p, H1 p = none → Q (.ref p) (upd H1 p (.lst xs))
theorem pe_tup {x1} (h : PA X es t) : PE X (.Tuple es x1 pos) (tTup t) := by
  intro pins s σ H Q I hq
  refine wpAny_Tuple_spliced (thn (h pos pins s σ H _ I hq) fun us s1 ⟨xs, H1, I1, r, z, q⟩ => ⟨by rw [← r.length]; exact z, ?_⟩)
  have hf : H1 s1.heap.objs.size = none := I1.hok.fresh (Nat.le_refl _)
  refine ⟨.ref s1.heap.objs.size, upd H1 s1.heap.objs.size (.tup xs), I1.laid (t' := s1.toks) (fun b u e => Heap.get?_push_of_some _ e) (Nat.le_refl _) ?_, rfl, q _ hf⟩
  exact ⟨z, us, r, ⟨_, Heap.get?_push_size _ rfl, rfl, _, rfl, rfl⟩⟩
theorem pe_lst (h : PA X es t) : PE X (.List es pos) (tLst t) := by
  intro pins s σ H Q I hq
  refine wpAny_List_spliced (thn (h pos pins s σ H _ I hq) fun us s1 ⟨xs, H1, I1, r, z, q⟩ => ⟨by rw [← r.length]; exact z, ?_⟩)
  have hf : H1 s1.heap.objs.size = none := I1.hok.fresh (Nat.le_refl _)
  refine ⟨.ref s1.heap.objs.size, upd H1 s1.heap.objs.size (.lst xs), I1.laid (t' := s1.toks) (fun b u e => Heap.get?_push_of_some _ e) (Nat.le_refl _) ?_, rfl, q _ hf⟩
  exact ⟨z, us, 0, r, Heap.get?_push_size _ rfl⟩
end

/-! ### what a def promises -/
/-- a def's promise: the bound arguments in the parameters' order, the heap, the wanted end, the wanted exception -/
abbrev Sp := List V → Hp → VK → XK → Prop
/-- how an exception lies behind a call (file 08 gives it): the callers' frames, abstract heap and state ahead of the call, the wish, the exception, the state -/
abbrev CXT := List Env → Hp → Shared → XK → Value → Shared → Prop

/-- the state at a call -/
structure Env0 (P : Program) (w : World) (K : PySem.W.Frag) (mg : Str → Option Value) (base : Heap) (A : Around) (outer : List Env) (s : Shared) (H : Hp) : Prop where
  frames : A.frames = some outer
  mod : Mod K mg base
  bs : ∀ b o, base.get? b = some o → s.heap.get? b = some o ∧ H b = none
  bsz : base.objs.size ≤ s.heap.objs.size
  funs : s.heap.FunFrames base outer
  frf : ∀ b ∈ frs outer, H b = none
  hok : HOk P w H s.heap
  bare : AllBare s.gens
/-- a call's end -/
def CE (outer : List Env) (P : Program) (w : World) (H : Hp) (s : Shared) (Q : VK) (u : Value) (s' : Shared) : Prop :=
  ∃ v H', s'.os = s.os ∧ AllBare s'.gens ∧ Un (frs outer) [] H H' s.heap s'.heap ∧ HOk P w H' s'.heap ∧ RelV v u ∧ Q v H'
def CR (CX : CXT) (outer : List Env) (P : Program) (w : World) (H : Hp) (s : Shared) (Q : VK) (E : XK) (r : Result) (s' : Shared) : Prop :=
  match r with
  | .ok (.ret u) => CE outer P w H s Q u s'
  | .ok _ => False
  | .error e => CX outer H s E e s'
structure FnOk (P : Program) (w : World) (K : PySem.W.Frag) (mg : Str → Option Value) (base : Heap) (CX : CXT) (k : Nat) (f : Addr) (fd : FuncData) (ps : List Str) (sp : Sp) : Prop where
  len : ∀ vs H Q E, sp vs H Q E → vs.length = ps.length
  run : ∀ (A : Around) (outer : List Env) (s : Shared) (H : Hp) (args : Args) (us : List Value) (vs : List V) (Q : VK) (E : XK), Room k A → Env0 P w K mg base A outer s H → BindsTo s fd args (ps.zip us) → Vals vs us → sp vs H Q E →
    codeAny (model P w) A (.call (.ref f) args) (CR CX outer P w H s Q E) s
theorem Env0.make {P : Program} {w : World} {K : PySem.W.Frag} {mg : Str → Option Value} {base : Heap} {A : Around} {outer : List Env} {s : Shared} {H : Hp} (e : Env0 P w K mg base A outer s H) (C : Addr) (us : List Value) (kw : List (Str × Value)) :
    Env0 P w K mg base (A.under (.builtin "type.__call__" ⟨.ref C :: us, kw⟩)) outer s H := ⟨by first | exact e.frames | (simpa [Around.under, Code.envs, Code.isFrame, pushEnvs] using e.frames), e.mod, e.bs, e.bsz, e.funs, e.frf, e.hok, e.bare⟩
section
variable {X : Cx} {pins : List (Addr × Obj)} {σ : St} {H : Hp} {s s' : Shared}
/-- from a body: what a callee wants -/
theorem Inv.env0 (I : Inv X pins σ H s) : Env0 X.prog X.w X.K X.mg X.base X.A X.stack s H :=
  ⟨I.ok.frames, I.ok.mod, I.bs, Nat.le_trans I.ok.bsz I.sz, I.stack, I.stkFree, I.hok, I.bare⟩
/-- behind a call -/
theorem Inv.after {Q : VK} {u : Value} (I : Inv X pins σ H s) (h : CE X.stack X.prog X.w H s Q u s') : EP X pins σ Q u s' := by
  obtain ⟨v, H', os, bare, un, hok, r, q⟩ := h
  obtain ⟨hh, g, d, t, os'⟩ := s'
  obtain rfl : os' = s.os := os
  exact ⟨v, H', I.call (h' := hh) (g' := g) (d' := d) (t' := t) (ch := []) un hok bare (fun b z => absurd z (by simp)), r, q⟩
end

/-! ### calls -/
/-- f(..): the written arguments, then the defaults dvs; E: what is wanted of an exception -/
def tCall (sp : Sp) (dvs : List V) (E : XK) (t : TA) : TE := fun σ H Q => t σ H fun vs H1 => sp (vs ++ dvs) H1 Q E
/-- o.m(..) of an instance of the class at C -/
def tMeth (C : Addr) (m : Str) (sp : Sp) (dvs : List V) (E : XK) (ta : TE) (t : TA) : TE := fun σ H Q => ta σ H fun x H1 => ∃ a dx fs, x = .ref a ∧ H1 a = some (.ins C dx fs) ∧ fs.lookup m = none ∧
  t σ H1 fun vs H2 => sp (x :: (vs ++ dvs)) H2 Q E
/-- C(..): a new instance and its dict, then __init__ -/
def tMake (C : Addr) (sp : Sp) (dvs : List V) (E : XK) (t : TA) : TE := fun σ H Q => t σ H fun vs H1 => ∀ x dx, H1 x = none → H1 dx = none → dx ≠ x →
  sp (.ref x :: (vs ++ dvs)) (upd (upd H1 dx (.own x)) x (.ins C dx [])) (fun v H2 => v = .non ∧ Q (.ref x) H2) E

/-- how the parameters are bound: us the positional arguments, kw the keywords' values by name, ds the defaults that fill up -/
def Binds (K : PySem.W.Frag) (fd : FuncData) (ps : List Str) (ds : List Value) : Prop :=
  ∀ (s : Shared) (us : List Value), K.In s.heap → (us ++ ds).length = ps.length → BindsTo s fd ⟨us, []⟩ (ps.zip (us ++ ds))
/-- every parameter is given -/
theorem Binds.all {K : PySem.W.Frag} {fd : FuncData} {ps : List Str} (h : ∀ us : List Value, us.length = ps.length → bindArgs fd ⟨us, []⟩ = pure (ps.zip us)) : Binds K fd ps [] := fun s us _ hl => by
  rw [List.append_nil] at hl ⊢
  exact .of_eq (h us hl)

/-- an exception of a callee reaches what this body wants of exceptions -/
def Passes (CX : CXT) (X : Cx) (E : XK) : Prop := ∀ (pins : List (Addr × Obj)) (σ : St) (H : Hp) (s : Shared) (e : Value) (s' : Shared), Inv X pins σ H s → CX X.stack H s E e s' → X.xe e s'

section
variable {X : Cx} {CX : CXT} {k : Nat} {f C : Addr} {fd : FuncData} {ps : List Str} {sp : Sp} {dvs : List V} {ds : List Value} {E : XK} {x m : Str} {p pos apos : Pos} {e o : Expr} {es : List Expr} {ta : TE} {t : TA}

/-- the callee runs -/
theorem run_fn {pins : List (Addr × Obj)} {σ : St} {H : Hp} {s : Shared} {Q : VK} {us : List Value} {vs : List V} (F : FnOk X.prog X.w X.K X.mg X.base CX k f fd ps sp) (hr : Room k X.A) (hb : Binds X.K fd ps ds) (hd : Vals dvs ds) (hx : Passes CX X E)
    (I : Inv X pins σ H s) (r : Vals vs us) (h : sp (vs ++ dvs) H Q E) : wpAny (model X.prog X.w) X.A (call (.ref f) us) (EP X pins σ Q) X.xe s := by
  have r2 : Vals (vs ++ dvs) (us ++ ds) := r.append hd
  have hl : (us ++ ds).length = ps.length := by rw [← r2.length]; exact F.len _ _ _ _ h
  refine wpAny_call (codeAny_mono (F.run X.A X.stack s H ⟨us, []⟩ (us ++ ds) (vs ++ dvs) Q E hr I.env0 (hb s us I.kIn hl) r2 h) fun r s' hq => ?_)
  cases r with
  | error e => exact hx pins σ H s e s' I hq
  | ok fl =>
    cases fl with
    | ret u => exact I.after hq
    | next => exact False.elim hq
    | brk => exact False.elim hq
    | cont => exact False.elim hq

theorem pe_call (F : FnOk X.prog X.w X.K X.mg X.base CX k f fd ps sp) (hr : Room k X.A) (hg : Gl X x) (hm : X.mg x = some (.ref f)) (hk : PySem.W.keepIn X.K (.ref f) = true) (hb : Binds X.K fd ps ds) (hd : Vals dvs ds) (hx : Passes CX X E)
    (ha : PA X (e :: es) t) (hdb : (x == ("__debug__" : Str)) = false := by decide) (he : starEach (e :: es) X.env = (false, eval e X.env) :: starEach es X.env := by rfl) (hpl : (backTo pos (starEach es X.env)).any (·.1) = false := by rfl) :
    PE X (.Call (.Name x p) (e :: es) [] pos) (tCall sp dvs E t) := by
  intro pins s σ H Q I h
  refine wpAny_Call_Name_kw (ld_glob I hg hm ?_ hdb)
  refine PySem.W.callWith_K (h₀ := X.base) I.ok.mod.kin hk (thn (ha pos pins s σ H _ I h) fun us s1 ⟨vs, H1, I1, r, q⟩ => ⟨I1.kIn, ?_⟩) he hpl
  exact run_fn F hr hb hd hx I1 r q
/-- what a class must have to be made -/
structure Mk (K : PySem.W.Frag) (C f : Addr) : Prop where
  makes : PySem.W.makesIn K C = true
  init : PySem.W.findIn K (.ref C) "__init__" = some (some (.ref f))
  fn : PySem.W.isFn K (.ref f) = true
  kp : PySem.W.keepIn K (.ref C) = true

end

/-! ### keywords -/
/-- the values of the keywords, from the left -/
def PK (X : Cx) (kws : List Keyword) (t : TA) : Prop :=
  ∀ (pos : Pos) (pins : List (Addr × Obj)) (s : Shared) (σ : St) (H : Hp) (Q : List V → Hp → Prop), Inv X pins σ H s → t σ H Q → wpAny (model X.prog X.w) X.A (evalAll ((backToKw pos (keywordEach kws X.env)).map (·.2))) (AP X pins σ Q) X.xe s
section
variable {X : Cx} {CX : CXT} {k : Nat} {f C : Addr} {fd : FuncData} {ps ks : List Str} {sp : Sp} {E : XK} {x m : Str} {p pos apos kpos : Pos} {e o : Expr} {es : List Expr} {kws : List Keyword} {te ta : TE} {t tk : TA} {nm : Option Str}
theorem pk_nil : PK X [] tNil := fun _ _ _ _ H Q I h => wpAny_evalAll_nil ⟨[], H, I, .nil, h⟩
theorem pk_cons (ha : PE X e te) (hr : PK X kws t) : PK X (⟨nm, e, kpos⟩ :: kws) (tCons te t) := by
  intro pos pins s σ H Q I h
  show wpAny _ _ (evalAll ((do let v ← eval e X.env; standAt pos; pure v) :: (backToKw pos (keywordEach kws X.env)).map (·.2))) _ _ s
  refine wpAny_evalAll_cons (wpAny_bind (thn (ha pins s σ H _ I h) fun u s1 ⟨x, H1, I1, r1, q1⟩ => wpAny_bind (wpAny_standAt (wpAny_pure ?_))))
  exact thn (hr pos pins s1 σ H1 _ I1 q1) fun us s2 ⟨xs, H2, I2, r2, q2⟩ => ⟨x :: xs, H2, I2, .cons r1 r2, q2⟩

/-- how a call with keywords binds: g puts the positional values us and the keywords' values ws (names ks) in the parameters' order, defaults among them -/
structure KBinds (K : PySem.W.Frag) (fd : FuncData) (ps ks : List Str) (g : List Value → List Value → List Value) (gV : List V → List V → List V) : Prop where
  to : ∀ (s : Shared) (us ws : List Value), K.In s.heap → (g us ws).length = ps.length → BindsTo s fd ⟨us, ks.zip ws⟩ (ps.zip (g us ws))
  rel : ∀ {vs : List V} {us : List Value} {zs : List V} {ws : List Value}, Vals vs us → Vals zs ws → Vals (gV vs zs) (g us ws)
def tCallK (sp : Sp) (gV : List V → List V → List V) (E : XK) (t tk : TA) : TE := fun σ H Q => t σ H fun vs H1 => tk σ H1 fun zs H2 => sp (gV vs zs) H2 Q E
variable {g : List Value → List Value → List Value} {gV : List V → List V → List V}
theorem run_fnk {pins : List (Addr × Obj)} {σ : St} {H : Hp} {s : Shared} {Q : VK} {us ws : List Value} {vs zs : List V} (F : FnOk X.prog X.w X.K X.mg X.base CX k f fd ps sp) (hr : Room k X.A) (hb : KBinds X.K fd ps ks g gV) (hx : Passes CX X E)
    (I : Inv X pins σ H s) (r : Vals vs us) (rz : Vals zs ws) (h : sp (gV vs zs) H Q E) : wpAny (model X.prog X.w) X.A (call (.ref f) us (ks.zip ws)) (EP X pins σ Q) X.xe s := by
  have r2 := hb.rel r rz
  have hl : (g us ws).length = ps.length := by rw [← r2.length]; exact F.len _ _ _ _ h
  refine wpAny_call (codeAny_mono (F.run X.A X.stack s H ⟨us, ks.zip ws⟩ (g us ws) (gV vs zs) Q E hr I.env0 (hb.to s us ws I.kIn hl) r2 h) fun r s' hq => ?_)
  cases r with
  | error e => exact hx pins σ H s e s' I hq
  | ok fl =>
    cases fl with
    | ret u => exact I.after hq
    | next => exact False.elim hq
    | brk => exact False.elim hq
    | cont => exact False.elim hq
/-- f(e, .., k = v, ..) -/
theorem pe_callK (F : FnOk X.prog X.w X.K X.mg X.base CX k f fd ps sp) (hr : Room k X.A) (hg : Gl X x) (hm : X.mg x = some (.ref f)) (hk : PySem.W.keepIn X.K (.ref f) = true) (hb : KBinds X.K fd ps ks g gV) (hx : Passes CX X E)
    (ha : PA X (e :: es) t) (hkw : PK X kws tk) (hall : (backToKw pos (keywordEach kws X.env)).all (·.1.isSome) = true := by rfl) (hks : (backToKw pos (keywordEach kws X.env)).filterMap (·.1) = ks := by rfl)
    (hdb : (x == ("__debug__" : Str)) = false := by decide) (he : starEach (e :: es) X.env = (false, eval e X.env) :: starEach es X.env := by rfl)
    (hpl : ((backTo pos (starEach (e :: es) X.env)).any (·.1) || (backToKw pos (keywordEach kws X.env)).any (·.1.isNone)) = false := by rfl) :
    PE X (.Call (.Name x p) (e :: es) kws pos) (tCallK sp gV E t tk) := by
  intro pins s σ H Q I h
  refine wpAny_Call_Name_kw (ld_glob I hg hm ?_ hdb)
  refine PySem.W.callWith_KW (h₀ := X.base) I.ok.mod.kin hk hall (thn (ha pos pins s σ H _ I h) fun us s1 ⟨vs, H1, I1, r, q⟩ => ?_) hpl he
  refine thn (hkw pos pins s1 σ H1 _ I1 q) fun ws s2 ⟨zs, H2, I2, rz, q2⟩ => ⟨I2.kIn, ?_⟩
  rw [hks]
  exact run_fnk F hr hb hx I2 r rz q2
end

/-! ### a def's body keeps its promise -/
/-- names: the parameters first -/
structure FnScope (N P : List Str) (sc : Scope) : Prop where
  kind : sc.kind = .function
  co : sc.isCoroutine = false
  gen : sc.isGenerator = false
  nd : N.Nodup
  pre : N.take P.length = P
  par : ∀ x ∈ P, sc.names.lookup x = some .local ∨ sc.names.lookup x = some .cell
  nofree : ∀ y ∈ sc.names, y.2 ≠ .free

theorem bindL_out {kindOf : Str → Option NameKind} {x : Str} : ∀ {binds : List (Str × Value)} {m : Str → Option Value}, (∀ v, (x, v) ∉ binds) → bindL kindOf binds m x = m x
  | [], _, _ => rfl
  | (n, v) :: r, m, h => by
    unfold bindL
    rw [bindL_out fun w hw => h w (List.mem_cons_of_mem _ hw)]
    split
    · have : x ≠ n := by rintro rfl; exact h v List.mem_cons_self
      simp [this]
    · rfl
theorem bindC_out {kindOf : Str → Option NameKind} {x : Str} : ∀ {binds : List (Str × Value)} {m : Str → Option Value}, (∀ v, (x, v) ∉ binds) → bindC kindOf binds m x = m x
  | [], _, _ => rfl
  | (n, v) :: r, m, h => by
    unfold bindC
    rw [bindC_out fun w hw => h w (List.mem_cons_of_mem _ hw)]
    split
    · rfl
    · have : x ≠ n := by rintro rfl; exact h v List.mem_cons_self
      simp [this]
theorem bindL_get {kindOf : Str → Option NameKind} {x : Str} {v : Value} : ∀ {P : List Str} {vs : List Value} {i : Nat} {m : Str → Option Value}, P.Nodup → P[i]? = some x → vs[i]? = some v → kindOf x = some .local →
    bindL kindOf (P.zip vs) m x = some v
  | [], _, _, _, _, h, _, _ => by simp at h
  | _ :: _, [], _, _, _, _, h, _ => by simp at h
  | p :: P, w :: vs, 0, m, nd, h1, h2, hk => by
    simp at h1 h2; subst h1; subst h2
    show bindL kindOf ((p, w) :: P.zip vs) m p = _
    unfold bindL
    rw [bindL_out fun v hv => (List.nodup_cons.mp nd).1 (List.of_mem_zip hv).1, if_pos hk]
    simp
  | p :: P, w :: vs, i + 1, m, nd, h1, h2, hk => by
    show bindL kindOf ((p, w) :: P.zip vs) m x = _
    unfold bindL
    exact bindL_get (i := i) (List.nodup_cons.mp nd).2 (by simpa using h1) (by simpa using h2) hk
theorem bindC_get {kindOf : Str → Option NameKind} {x : Str} {v : Value} : ∀ {P : List Str} {vs : List Value} {i : Nat} {m : Str → Option Value}, P.Nodup → P[i]? = some x → vs[i]? = some v → kindOf x ≠ some .local →
    bindC kindOf (P.zip vs) m x = some v
  | [], _, _, _, _, h, _, _ => by simp at h
  | _ :: _, [], _, _, _, _, h, _ => by simp at h
  | p :: P, w :: vs, 0, m, nd, h1, h2, hk => by
    simp at h1 h2; subst h1; subst h2
    show bindC kindOf ((p, w) :: P.zip vs) m p = _
    unfold bindC
    rw [bindC_out fun v hv => (List.nodup_cons.mp nd).1 (List.of_mem_zip hv).1, if_neg hk]
    simp
  | p :: P, w :: vs, i + 1, m, nd, h1, h2, hk => by
    show bindC kindOf ((p, w) :: P.zip vs) m x = _
    unfold bindC
    exact bindC_get (i := i) (List.nodup_cons.mp nd).2 (by simpa using h1) (by simpa using h2) hk

/-- the names' values at the entry -/
def start (N : List Str) (vs : List V) : St := vs.map some ++ List.replicate (N.length - vs.length) none

/-- the context of a def's body, at its entry; an exception leaves the frame, then lies as CX says -/
def cxOf (CX : CXT) (P : Program) (w : World) (K : PySem.W.Frag) (mg : Str → Option Value) (base : Heap) (N : List Str) (qual : Str) (scope : Scope) (f : Addr) (cd : Value) (A : Around) (outer : List Env) (s : Shared) (H : Hp) (E : XK) : Cx where
  prog := P
  w := w
  K := K
  mg := mg
  base := base
  A := A.deeper (envOfC qual scope s.heap.objs.size f cd)
  N := N
  s_0 := s
  H_0 := H
  env := envOfC qual scope s.heap.objs.size f cd
  outer := outer
  stack := envOfC qual scope s.heap.objs.size f cd :: outer
  ex := []
  calm := true
  fn := fun _ => true
  pn := []
  xe := fun e s' => wpAny (model P w) (A.deeper (envOfC qual scope s.heap.objs.size f cd)) (leaving (envOfC qual scope s.heap.objs.size f cd) e) (fun _ s'' => CX outer H s E e s'') (fun e' s'' => CX outer H s E e' s'') s'

theorem cell_has {sc : Scope} {n : Nat} {x : Str} (h : sc.names.lookup x = some .cell) : ∃ c, (cellsFrom n sc.names []).lookup x = some c := by
  have q := PySem.W.cellsFrom_some sc.names n [] (.inl h)
  exact Option.isSome_iff_exists.mp q

theorem inv_start {CX : CXT} {P : Program} {w : World} {K : PySem.W.Frag} {mg : Str → Option Value} {base : Heap} {N ps : List Str} {qual : Str} {scope : Scope} {f : Addr} {cd : Value} {A : Around} {outer : List Env} {s s1 : Shared} {H : Hp} {E : XK} {us : List Value} {vs : List V}
    (S : FnScope N ps scope) (hd : A.handled = none) (e0 : Env0 P w K mg base A outer s H) (hl : vs.length = ps.length) (r : Vals vs us)
    (x : InCallC s s.heap.objs.size (bindL (envOfC qual scope s.heap.objs.size f cd).kindOf (ps.zip us) fun _ => none) (cellsFrom (s.heap.objs.size + 1) scope.names []) (bindC (envOfC qual scope s.heap.objs.size f cd).kindOf (ps.zip us) fun _ => none) s1) :
    Inv (cxOf CX P w K mg base N qual scope f cd A outer s H E) [] (start N vs) H s1 := by
  have hpl : ps.length ≤ N.length := by have := congrArg List.length S.pre; rw [List.length_take] at this; omega
  obtain ⟨h1, tk, rfl, hk⟩ := x.done
  have noA : ∀ b : Addr, b ∉ (cxOf CX P w K mg base N qual scope f cd A outer s H E).ex := fun b z => absurd (show b ∈ ([] : List Addr) from z) (by simp)
  refine ⟨⟨e0.mod, S.kind, rfl, rfl, Nat.le_refl _, fun y z c h1 h2 => ?_, fun y hy => ?_, fun y c _ h => ?_, fun _ => hd, Around.frames_deeper e0.frames, .inr ⟨rfl, rfl⟩, fun b z => absurd z (noA b), e0.bs, e0.bsz, fun b _ _ => noA b, fun b z => absurd z (noA b), e0.funs, e0.frf⟩,
    rfl, e0.bare, Un.kept hk, ⟨_, x.toInCall.ns, fun i y v h1 h2 h3 => ?_⟩, fun y c h => ⟨_, x.cell y c h⟩, e0.hok.fresh (Nat.le_refl _), fun y c h => ?_, fun p hp => absurd (show p ∈ ([] : List (Addr × Obj)) from hp) (by simp), e0.hok.kept hk, ?_⟩
  · exact name_of_addr x.apart (PySem.mem_of_lookup h1) (PySem.mem_of_lookup h2)
  · have hy : scope.names.lookup y = some .cell ∨ scope.names.lookup y = some .free := hy
    rcases hy with hy | hy
    · exact cell_has hy
    · exact absurd rfl (S.nofree _ (PySem.mem_of_lookup hy))
  · exact Nat.le_of_lt (x.above y c (PySem.mem_of_lookup h))
  · have hi : i < vs.length := by
      unfold start at h2
      by_cases hi : i < vs.length
      · exact hi
      · rw [List.getElem?_append_right (by simpa using hi)] at h2
        rw [List.getElem?_replicate] at h2
        split at h2 <;> cases h2
    have ha : vs[i]? = some v := by
      unfold start at h2
      rw [List.getElem?_append_left (by simpa using hi), List.getElem?_map] at h2
      cases e : vs[i]? with
      | none => rw [e] at h2; cases h2
      | some a => rw [e] at h2; cases h2; rfl
    obtain ⟨u, hu, rv⟩ := r.get ha
    have hp : ps[i]? = some y := by
      rw [← S.pre, List.getElem?_take_of_lt (by omega)]; exact h1
    have ndP : ps.Nodup := by rw [← S.pre]; exact S.nd.sublist (List.take_sublist _ _)
    refine ⟨u, rv, ?_⟩
    rcases S.par y (List.mem_of_getElem? hp) with k | k
    · exact .inl ⟨k, bindL_get ndP hp hu k⟩
    · obtain ⟨c, e⟩ := cell_has (n := s.heap.objs.size + 1) k
      refine .inr ⟨.inl k, c, e, ?_⟩
      have q := x.cell y c e
      rw [bindC_get ndP hp hu (by show scope.names.lookup y ≠ _; rw [k]; decide)] at q
      exact q
  · exact e0.hok.fresh (Nat.le_of_lt (x.above y c (PySem.mem_of_lookup h)))
  · unfold start
    show _ = N.length
    rw [List.length_append, List.length_map, List.length_replicate]
    omega

/-- THE RULE: a def (or a method) of the text, by its body. The body's reading t is chosen for each entry; it is run at the parameters' values -/
theorem fn_of {CX : CXT} {P : Program} {w : World} {K : PySem.W.Frag} {mg : Str → Option Value} {base : Heap} {k : Nat} {f : Addr} {name qual : Str} {params : Arguments} {body : List Stmt} {scope : Scope} {dV kV doc pm cdv ct oc : Value} {an od : Option Addr}
    {osl : Array (Option Value)} {N ps : List Str} {sp : Sp} (lk : K.lookup f = some ⟨oc, od, .func (PySem.W.fnOf name qual params body scope dV kV doc pm an cdv ct), osl⟩) (hcd : PySem.W.codeIn K cdv qual = true) (S : FnScope N ps scope)
    (len : ∀ vs H Q E, sp vs H Q E → vs.length = ps.length)
    (hbody : ∀ (A : Around) (outer : List Env) (s : Shared) (H : Hp) (vs : List V) (Q : VK) (E : XK), Room k (A.deeper (envOfC qual scope s.heap.objs.size f cdv)) → sp vs H Q E →
      ∃ t, PSs (cxOf CX P w K mg base N qual scope f cdv A outer s H E) body t ∧ t { nx := fun _ H' => Q .non H', rt := Q } (start N vs) H) :
    FnOk P w K mg base CX (k + 1) f (PySem.W.fnOf name qual params body scope dV kV doc pm an cdv ct) ps sp := by
  refine ⟨len, fun A outer s H args us vs Q E hr e0 hb r hsp => ?_⟩
  have hl := len _ _ _ _ hsp
  have KX : K.In s.heap := e0.mod.kin.keeps fun b o e => (e0.bs b o e).1
  have lim : s.heap.NoLimit := e0.mod.nolimit.keeps fun b o e => (e0.bs b o e).1
  have hkind : ∀ y ∈ ps.zip us, scope.names.lookup y.1 = some .local ∨ (scope.names.lookup y.1 = some .cell ∧ ((cellsFrom (s.heap.objs.size + 1) scope.names []).lookup y.1).isSome = true) := fun ⟨n, v⟩ hy => by
    rcases S.par n (List.of_mem_zip hy).1 with q | q
    · exact .inl q
    · exact .inr ⟨q, PySem.W.cellsFrom_some _ _ _ (.inl q)⟩
  refine codeAny_call_function hr.depth (KX _ _ lk) rfl S.co S.gen rfl (PySem.W.codeRec_of KX hcd) (hb _ _ _ _ ?_)
  refine wpAny_newFunctionEnv_cells S.kind hkind fun env he s1 x => ?_
  subst he
  refine ⟨lim.keeps x.toInCall.keep, codeAny_func ?_⟩
  obtain ⟨t, ht, hq⟩ := hbody A outer s H vs Q E (hr.deeper _) hsp
  have I : Inv (cxOf CX P w K mg base N qual scope f cdv A outer s H E) [] (start N vs) H s1 := inv_start S hr.hd e0 hl r x
  refine wpAny_mono (ht [] s1 (start N vs) H _ I hq) (fun fl s' hs => ?_) fun e s' hs => hs
  have fin : ∀ {σ' : St} {H' : Hp} {v : V} {u : Value}, Inv (cxOf CX P w K mg base N qual scope f cdv A outer s H E) [] σ' H' s' → RelV v u → Q v H' → CE outer P w H s Q u s' :=
    fun {σ' H' v u} J rv q => ⟨v, H', J.os, J.bare, J.base, J.hok, rv, q⟩
  cases fl with
  | ret u =>
    obtain ⟨v, σ', H', J, rv, q⟩ := hs
    exact fin J rv q
  | next =>
    obtain ⟨σ', H', J, q⟩ := hs
    exact fin (v := V.non) (u := Value.none) J rfl q
  | brk =>
    obtain ⟨_, _, _, q⟩ := hs
    exact False.elim q
  | cont =>
    obtain ⟨_, _, _, q⟩ := hs
    exact False.elim q
end L2

namespace L2
open PySem PySem.Spec PyProof.Rows
section
variable {X : Cx} {x : Str} {p pos : Pos} {e : Expr} {es : List Expr} {t : TA} {id T : String} {r : List V → Hp → VK → Prop}

def tCB (r : List V → Hp → VK → Prop) (t : TA) : TE := fun σ H Q => t σ H fun vs H1 => r vs H1 Q
/-- f(e, ..), f a built-in function -/
theorem pe_callB (hc : CallR X (.builtin id) r) (hg : Gl X x) (hm : X.mg x = none) (hv : bootBuiltins x = some (.builtin id)) (ha : PA X (e :: es) t) (hn : x ≠ "__name__" := by decide) (hdb : (x == ("__debug__" : Str)) = false := by decide)
    (he : starEach (e :: es) X.env = (false, eval e X.env) :: starEach es X.env := by rfl) (hpl : (backTo pos (starEach es X.env)).any (·.1) = false := by rfl) : PE X (.Call (.Name x p) (e :: es) [] pos) (tCB r t) := by
  intro pins s σ H Q I h
  refine wpAny_Call_Name_kw (ld_blt I hg hm hv ?_ hn hdb)
  exact PyProof.Rows.callWith_builtin1 (thn (ha pos pins s σ H _ I h) fun us s1 ⟨vs, H1, I1, r1, q1⟩ => hc pins s1 σ H1 vs us Q I1 r1 q1) he hpl
/-- T(e, ..), T a built-in type -/
theorem pe_callTy (hc : CallR X (.type T) r) (hg : Gl X x) (hm : X.mg x = none) (hv : bootBuiltins x = some (.type T)) (ha : PA X (e :: es) t) (hn : x ≠ "__name__" := by decide) (hdb : (x == ("__debug__" : Str)) = false := by decide)
    (he : starEach (e :: es) X.env = (false, eval e X.env) :: starEach es X.env := by rfl) (hpl : (backTo pos (starEach es X.env)).any (·.1) = false := by rfl) : PE X (.Call (.Name x p) (e :: es) [] pos) (tCB r t) := by
  intro pins s σ H Q I h
  refine wpAny_Call_Name_kw (ld_blt I hg hm hv ?_ hn hdb)
  exact PyProof.Rows.callWith_type1 (thn (ha pos pins s σ H _ I h) fun us s1 ⟨vs, H1, I1, r1, q1⟩ => hc pins s1 σ H1 vs us Q I1 r1 q1) he hpl
end
end L2

namespace HT
open PySem PyProof.Rows

/-- t < u of tuples of ints -/
def lexLt : List Int → List Int → Bool
  | [], [] => false
  | [], _ :: _ => true
  | _ :: _, [] => false
  | x :: xs, y :: ys => if x = y then lexLt xs ys else decide (x < y)
section
open PySem.SeqAt
open PySem.AutoSeq1 (wpAny_loadPart')
open PySem.MeetsSeq PySem.MeetsSeq2 PySem.MeetsSeq3

end

section
variable {prog : Program} {w : World} {A : Around} {E : Value → Shared → Prop} {s : Shared}

/-- t + u, t not empty -/
theorem cat_tup {t b : Addr} {vs ws : List Value} {Q : Value → Shared → Prop} (ht : IsTup s.heap t vs.toArray) (hb : IsTup s.heap b ws.toArray) (hv : vs ≠ [])
    (h1 : ws = [] → Q (.ref t) s) (h2 : ws ≠ [] → Q (.ref s.heap.objs.size) { s with heap := s.heap.push { cls := .type "tuple", data := .seq (vs ++ ws).toArray } })
    (hsz : vs.length + ws.length ≤ sizeLine) : wpAny (model prog w) A (binaryOp .Add (.ref t) (.ref b)) Q E s := by
  obtain ⟨⟨cls, dd, data, sl⟩, ho, hc, n, hd⟩ := id ht
  obtain ⟨⟨cls2, dd2, data2, sl2⟩, ho2, hc2, n2, hd2⟩ := id hb
  simp only at hc hd hc2 hd2
  subst hc hd hc2 hd2
  have e : vs.toArray ++ ws.toArray = (vs ++ ws).toArray := by simp
  by_cases hw : ws = []
  · exact concat_meets ⟨_, ho, rfl⟩ ⟨_, ho2, rfl⟩ noFill_tuple_add seq_tuple_add PySem.F.slot_tuple_add PySem.F.entry_tuple_add (PySem.F.args_tuple_add_2 _ _)
      (tuple_addW1 t b vs.toArray ws.toArray n n2 dd dd2 sl sl2 (by simpa using hv) (by simp [hw])) ⟨ho, ho2, h1 hw⟩
  · refine concat_meets ⟨_, ho, rfl⟩ ⟨_, ho2, rfl⟩ noFill_tuple_add seq_tuple_add PySem.F.slot_tuple_add PySem.F.entry_tuple_add (PySem.F.args_tuple_add_2 _ _)
      (tuple_addW2 t b vs.toArray ws.toArray n n2 dd dd2 sl sl2 (by simpa using hv) (by simpa using hw) (by rw [List.size_toArray, List.size_toArray]; exact hsz)) ⟨ho, ho2, ?_⟩
    rw [e]
    exact h2 hw

/-! ### t[a:b], not the whole -/
/-- a slice's bound as a place among n (d where it is left out) -/
def sIx (n d : Nat) : Option Int → Nat
  | none => d
  | some v => if v < 0 then (v + (n : Int)).toNat else min v.toNat n
theorem sIx_le (n d : Nat) (hd : d ≤ n) (o : Option Int) : sIx n d o ≤ n := by
  cases o with
  | none => exact hd
  | some v =>
    show (if v < 0 then (v + (n : Int)).toNat else min v.toNat n) ≤ n
    by_cases hv : v < 0
    · rw [if_pos hv]; omega
    · rw [if_neg hv]; exact Nat.min_le_right _ _
theorem clip_eq (v : Int) (n d : Nat) : (if v < 0 then max (v + (n : Int)) 0 else min v (n : Int)) = ((sIx n d (some v) : Nat) : Int) := by
  show (if v < 0 then max (v + (n : Int)) 0 else min v (n : Int)) = (((if v < 0 then (v + (n : Int)).toNat else min v.toNat n) : Nat) : Int)
  by_cases hv : v < 0
  · simp only [if_pos hv]; omega
  · simp only [if_neg hv]; omega
theorem adjust_gen (lo hi : Option Int) (n : Nat) : Builtin.Slice.sliceAdjust lo hi 1 (n : Int) = (((sIx n 0 lo : Nat) : Int), ((sIx n n hi : Nat) : Int)) := by
  have h1 : ¬ ((1 : Int) < 0) := by omega
  unfold Builtin.Slice.sliceAdjust
  simp only [h1, if_false]
  refine Prod.ext ?_ ?_
  · cases lo with
    | none => rfl
    | some v => exact clip_eq v n 0
  · cases hi with
    | none => rfl
    | some v => exact clip_eq v n n
theorem places_gen (i j : Nat) : Builtin.Slice.slicePlaces (i : Int) (j : Int) 1 = j - i := by
  unfold Builtin.Slice.slicePlaces
  have h1 : (1 : Int) > 0 := by omega
  simp only [h1, if_true, Int.ediv_one]
  split <;> omega
theorem slicePart_ {v : Value} {o : Option Int} {Q : Option Int → Shared → Prop} (p : IsPart v o) (h : Q o s) : wpAny (model prog w) A (Builtin.Slice.slicePartIndex v) Q E s := by
  cases p with
  | none => exact slicePart_none h
  | int i t => exact slicePart_int h
theorem sliceApplied_gen {sl : Addr} {vl vu : Value} {lo hi : Option Int} {n : Nat} {Q : Int × Int × Nat → Shared → Prop} (hs : s.heap.IsSliceOf sl vl vu .none) (pl : IsPart vl lo) (pu : IsPart vu hi)
    (h : Q (((sIx n 0 lo : Nat) : Int), 1, sIx n n hi - sIx n 0 lo) s) : wpAny (model prog w) A (Builtin.Slice.sliceApplied (.ref sl) (pure (n : Int))) Q E s := by
  obtain ⟨os, hos, hcs, hds⟩ := id hs
  unfold Builtin.Slice.sliceApplied Builtin.Slice.sliceFields
  refine wpAny_bind (wpAny_bind (wpAny_field hos hds (x := vl) rfl (wpAny_bind (wpAny_field hos hds (x := vu) rfl (wpAny_bind (wpAny_field hos hds (x := .none) rfl (wpAny_pure ?_)))))))
  refine wpAny_bind (slicePart_none ?_)
  show wpAny _ _ (if ((1 : Int) == 0) = true then _ else _) _ _ s
  rw [if_neg (by decide)]
  refine wpAny_bind (slicePart_ pl (wpAny_bind (slicePart_ pu (wpAny_bind (wpAny_pure ?_)))))
  show wpAny _ _ (match Builtin.Slice.sliceAdjust lo hi 1 (n : Int) with | (lo, hi) => pure (lo, (1 : Int), Builtin.Slice.slicePlaces lo hi 1)) _ _ s
  rw [adjust_gen lo hi n]
  show wpAny _ _ (pure (((sIx n 0 lo : Nat) : Int), (1 : Int), Builtin.Slice.slicePlaces ((sIx n 0 lo : Nat) : Int) ((sIx n n hi : Nat) : Int) 1)) _ _ s
  rw [places_gen]
  exact wpAny_pure h
theorem pick_gen (xs : Array Value) (i k : Nat) : ((List.range k).filterMap fun (m : Nat) => xs[((i : Int) + (m : Int) * 1).toNat]?).toArray = ((xs.toList.drop i).take k).toArray := by
  have e : (fun (m : Nat) => xs[((i : Int) + (m : Int) * 1).toNat]?) = fun m => xs[i + m]? := by
    funext m
    have : ((i : Int) + (m : Int) * 1).toNat = i + m := by omega
    rw [this]
  rw [e]
  have := pick_run xs i k
  rw [List.filterMap_map] at this
  have e2 : ((fun x => xs[x]?) ∘ fun x => i + x) = fun m => xs[i + m]? := rfl
  rw [e2] at this
  rw [this]

theorem getItem_tuple_cut {t sl : Addr} {items : Array Value} {vl vu : Value} {lo hi : Option Int} {Q : Value → Shared → Prop} (ht : IsTup s.heap t items) (hs : s.heap.IsSliceOf sl vl vu .none) (pl : IsPart vl lo) (pu : IsPart vu hi)
    (hw : ¬ (sIx items.size 0 lo = 0 ∧ sIx items.size items.size hi = items.size))
    (h : Q (.ref s.heap.objs.size) { s with heap := s.heap.push { cls := .type "tuple", data := .seq ((items.toList.drop (sIx items.size 0 lo)).take (sIx items.size items.size hi - sIx items.size 0 lo)).toArray } })
    (hsz : items.size ≤ sizeLine) : wpAny (model prog w) A (getItem (.ref t) (.ref sl)) Q E s := by
  have htake : sizeOk (.seq ((items.toList.drop (sIx items.size 0 lo)).take (sIx items.size items.size hi - sIx items.size 0 lo)).toArray) := by
    show ((items.toList.drop (sIx items.size 0 lo)).take (sIx items.size items.size hi - sIx items.size 0 lo)).toArray.size ≤ sizeLine
    rw [List.size_toArray, List.length_take, List.length_drop, Array.length_toList]
    omega
  have hj : sIx items.size items.size hi ≤ items.size := sIx_le _ _ (Nat.le_refl _) hi
  obtain ⟨os, hos, hcs, hds⟩ := id hs
  have hTs : s.TypeIs (.ref sl) "slice" := ⟨os, hos, hcs⟩
  unfold getItem
  try with_reducible refine wpAny_holding ?_
  first | refine wpAny_bind (wpAny_pure ?_) | skip
  refine wpAny_bind (wpAny_sequenceKey ht.typeIs (by decide) ?_)
  refine wpAny_bind (wpAny_callSpecial?_slot (name := Str.ofString "__getitem__") ht.typeIs PyProof.Rows.slot_tuple_getitem
    (wpAny_call_entry PyProof.Rows.slot_tuple_getitem ht.typeIs entry_tuple_getitem ?_ (args_tuple_getitem _ _)))
  show wpAny _ _ (Builtin.Tuple.tupleItemsOf (.ref t) >>= _) _ _ s
  refine wpAny_bind (tupleItemsOf_ ht ?_)
  refine wpAny_bind (wpAny_typeOf hTs ?_)
  rw [if_pos (by decide)]
  refine wpAny_bind (sliceApplied_gen hs pl pu ?_)
  have hno : ¬ ((((sIx items.size 0 lo : Nat) : Int) == 0 && (1 : Int) == 1 && (sIx items.size items.size hi - sIx items.size 0 lo) == items.size) = true) := by
    intro q
    rw [Bool.and_eq_true, Bool.and_eq_true] at q
    have q1 : ((sIx items.size 0 lo : Nat) : Int) = 0 := eq_of_beq q.1.1
    have q2 : sIx items.size items.size hi - sIx items.size 0 lo = items.size := eq_of_beq q.2
    exact hw ⟨by omega, by omega⟩
  show wpAny _ _ (if (((sIx items.size 0 lo : Nat) : Int) == 0 && (1 : Int) == 1 && (sIx items.size items.size hi - sIx items.size 0 lo) == items.size) = true then _ else _) _ _ s
  rw [if_neg hno, pick_gen]
  first
    | exact wpAny_bind (m := Builtin.Tuple.tupleExact _) (wpAny_newObj_type (wpAny_pure ⟨_, rfl, wpAny_pure h⟩) htake)
    | exact wpAny_bind (m := Builtin.Tuple.tupleExact _) (wpAny_newObj_type (wpAny_bind (wpAny_pure (wpAny_pure ⟨_, rfl, wpAny_pure h⟩))) htake)
    | exact wpAny_bind (wpAny_bind (m := Builtin.Tuple.tupleExact _) (wpAny_newObj_type (wpAny_pure (wpAny_pure ⟨_, rfl, wpAny_pure h⟩)) htake))
    | exact wpAny_bind (wpAny_bind (m := Builtin.Tuple.tupleExact _) (wpAny_newObj_type (wpAny_pure ⟨_, rfl, wpAny_pure h⟩) htake))
end
end HT

namespace L2
open PySem PySem.Spec PyProof.Rows

/-! ### the parts of a slice -/
abbrev TO := St → Hp → (Option Int → Hp → Prop) → Prop
/-- a slice's part (left out, or an int) -/
def PO (X : Cx) (e : Option Expr) (t : TO) : Prop :=
  ∀ (pins : List (Addr × Obj)) (s : Shared) (σ : St) (H : Hp) (Q : Option Int → Hp → Prop), Inv X pins σ H s → t σ H Q →
    wpAny (model X.prog X.w) X.A (evalPart e X.env) (fun u s' => ∃ o H', Inv X pins σ H' s' ∧ IsPart u o ∧ Q o H') X.xe s
def tNoPart : TO := fun _ H Q => Q none H
def tPart (t : TE) : TO := fun σ H Q => t σ H fun x H1 => ∃ i, x = .int i ∧ Q (some i) H1

section
variable {X : Cx} {e : Expr} {te : TE} {lo hi : Option Expr} {tl th : TO} {pos p2 : Pos}

theorem po_none : PO X none tNoPart := by
  intro pins s σ H Q I h
  rw [evalPart_none]
  exact wpAny_pure ⟨none, H, I, .none, h⟩
theorem po_some (h : PE X e te) : PO X (some e) (tPart te) := by
  intro pins s σ H Q I hw
  rw [evalPart_some]
  refine thn (h pins s σ H _ I hw) fun u s1 ⟨x, H1, I1, r1, q1⟩ => ?_
  obtain ⟨i, rfl, q⟩ := q1
  obtain ⟨t, rfl⟩ := r1
  exact ⟨some i, H1, I1, .int i t, q⟩

/-- what a slice of a value is, by values: the slice object stands at sl -/
def SlR (X : Cx) (r : V → Option Int → Option Int → Hp → VK → Prop) : Prop :=
  ∀ (pins : List (Addr × Obj)) (s : Shared) (σ : St) (H : Hp) (x : V) (v vl vu : Value) (lo hi : Option Int) (sl : Addr) (Q : VK), Inv X pins σ H s → RelV x v → s.heap.IsSliceOf sl vl vu .none → IsPart vl lo → IsPart vu hi → r x lo hi H Q →
    ∃ T id, typeLookup (.type T) "__getitem__" = pure (some (.builtin id)) ∧ s.TypeIs v T ∧ wpAny (model X.prog X.w) X.A (getItem v (.ref sl)) (EP X pins σ Q) X.xe s
theorem SlR.or {r r' : V → Option Int → Option Int → Hp → VK → Prop} (h : SlR X r) (h' : SlR X r') : SlR X (fun x lo hi H Q => r x lo hi H Q ∨ r' x lo hi H Q) := by
  intro pins s σ H x v vl vu lo hi sl Q I rx hs pl pu q
  rcases q with q | q
  · exact h pins s σ H x v vl vu lo hi sl Q I rx hs pl pu q
  · exact h' pins s σ H x v vl vu lo hi sl Q I rx hs pl pu q
def tSl (r : V → Option Int → Option Int → Hp → VK → Prop) (te : TE) (tl th : TO) : TE := fun σ H Q => te σ H fun x H1 => tl σ H1 fun l H2 => th σ H2 fun u H3 => r x l u H3 Q
/-- a[lo:hi], any a -/
theorem pe_slice {r : V → Option Int → Option Int → Hp → VK → Prop} (hr : SlR X r) (he : PE X e te) (hl : PO X lo tl) (hu : PO X hi th) : PE X (.Subscript e (.Slice lo hi none p2) pos) (tSl r te tl th) := by
  intro pins s σ H Q I h
  refine Subscript_ (thn (he pins s σ H _ I h) fun v s1 ⟨x, H1, I1, r1, q1⟩ => ?_)
  refine wpAny_Slice (thn (hl pins s1 σ H1 _ I1 q1) fun vl s2 ⟨l, H2, I2, pl, q2⟩ => thn (hu pins s2 σ H2 _ I2 q2) fun vu s3 ⟨u, H3, I3, pu, q3⟩ => ?_)
  rw [evalPart_none]
  refine wpAny_pure ?_
  have I4 : Inv X pins σ H3 { s3 with heap := s3.heap.push { cls := .type "slice", data := .fields #[vl, vu, .none] } } := I3.kept (t' := s3.toks) fun b ob q => Heap.get?_push_of_some _ q
  obtain ⟨T, id, hT, ht, hg⟩ := hr pins { s3 with heap := s3.heap.push { cls := .type "slice", data := .fields #[vl, vu, .none] } } σ H3 x v vl vu l u s3.heap.objs.size Q I4 r1 (Heap.IsSliceOf.new ..) pl pu q3
  show wpAny (model X.prog X.w) X.A (subscriptTail e (.Slice lo hi none p2) v (.ref s3.heap.objs.size)) (EP X pins σ Q) X.xe { s3 with heap := s3.heap.push { cls := .type "slice", data := .fields #[vl, vu, .none] } }
  exact tail_any (ops := [.ref s3.heap.objs.size, v]) ht hT hg (by with_unfolding_all rfl)

/-- the items of xs[lo:hi] -/
def cutV (xs : List V) (lo hi : Option Int) : List V := (xs.drop (HT.sIx xs.length 0 lo)).take (HT.sIx xs.length xs.length hi - HT.sIx xs.length 0 lo)
theorem cutV_length (xs : List V) (lo hi : Option Int) : (cutV xs lo hi).length ≤ xs.length := by
  unfold cutV
  rw [List.length_take, List.length_drop]
  omega
/-- t[lo:hi], not the whole of it (the whole would be t itself) -/
def rSlT (K : PySem.W.Frag) : V → Option Int → Option Int → Hp → VK → Prop := fun x lo hi H Q => ∃ a xs, x = .ref a ∧ SqT K H a xs ∧
  ¬ (HT.sIx xs.length 0 lo = 0 ∧ HT.sIx xs.length xs.length hi = xs.length) ∧ ∀ p, H p = none → Q (.ref p) (upd H p (.tup (cutV xs lo hi)))
theorem sl_tup : SlR X (rSlT X.K) := by
  intro pins s σ H x v vl vu lo hi sl Q I rx hs pl pu h
  obtain ⟨a, xs, rfl, hx, hw, q⟩ := h
  cases rx
  obtain ⟨its, r, ht, hz⟩ := I.tuple hx
  have hlen : its.toArray.size = xs.length := by rw [List.size_toArray]; exact r.length.symm
  refine ⟨"tuple", _, PyProof.Rows.slot_tuple_getitem.lookup, ht.typeIs, ?_⟩
  refine HT.getItem_tuple_cut ht hs pl pu (by rw [hlen]; exact hw) ?_ (by rw [hlen]; exact hz)
  rw [hlen]
  refine ⟨.ref s.heap.objs.size, _, I.laid (t' := s.toks) (o := .tup (cutV xs lo hi)) (fun b ob q => Heap.get?_push_of_some _ q) (Nat.le_refl _) ?_, rfl, q _ (I.hok.fresh (Nat.le_refl _))⟩
  exact ⟨Nat.le_trans (cutV_length xs lo hi) hz, _, (r.drop (HT.sIx xs.length 0 lo)).take (HT.sIx xs.length xs.length hi - HT.sIx xs.length 0 lo), IsTupN.new _ _⟩

/-! ### t < u, t + u -/
def rLtT (K : PySem.W.Frag) : R2 := fun x y H Q => ∃ a b ns ms, x = .ref a ∧ y = .ref b ∧ SqT K H a (ns.map V.int) ∧ SqT K H b (ms.map V.int) ∧ Q (.bl (HT.lexLt ns ms)) H
/-- t + u, t not empty: u empty gives t itself -/
def rCatT (K : PySem.W.Frag) : R2 := fun x y H Q => ∃ a b xs ys, x = .ref a ∧ y = .ref b ∧ SqT K H a xs ∧ SqT K H b ys ∧ xs ≠ [] ∧ xs.length + ys.length ≤ sizeLine ∧
  (ys = [] → Q (.ref a) H) ∧ (ys ≠ [] → ∀ p, H p = none → Q (.ref p) (upd H p (.tup (xs ++ ys))))
theorem Vals.nil_iff {xs : List V} {us : List Value} (r : Vals xs us) : us = [] ↔ xs = [] := by
  cases r with
  | nil => simp
  | cons _ _ => simp
theorem op_catT : OpR X (binaryOp .Add) (rCatT X.K) := by
  intro pins s σ H x y v u Q I rx ry h
  obtain ⟨a, b, xs, ys, rfl, rfl, ha, hb, hx, hz, q1, q2⟩ := h
  cases rx
  cases ry
  obtain ⟨its, r1, p1, _⟩ := I.tuple ha
  obtain ⟨its2, r2, p2, _⟩ := I.tuple hb
  refine HT.cat_tup p1 p2 (fun z => hx (r1.nil_iff.mp z)) (fun z => ⟨.ref a, H, I, rfl, q1 (r2.nil_iff.mp z)⟩) (fun z => ?_) (by rw [← r1.length, ← r2.length]; exact hz)
  refine ⟨.ref s.heap.objs.size, _, I.laid (t' := s.toks) (o := .tup (xs ++ ys)) (fun b ob q => Heap.get?_push_of_some _ q) (Nat.le_refl _) ?_, rfl, q2 (fun w => z (r2.nil_iff.mpr w)) _ (I.hok.fresh (Nat.le_refl _))⟩
  exact ⟨by rw [List.length_append]; exact hz, _, r1.append r2, IsTupN.new _ _⟩
end
end L2

namespace L2
open PySem PySem.Spec PyProof.Rows

/-! ### places -/
/-- the place that an index of any sign means -/
def ixN (n : Nat) (i : Int) : Option Nat := if 0 ≤ i then (if i < n then some i.toNat else none) else if -(n : Int) ≤ i then some (i + n).toNat else none
def atI {α : Type} (xs : List α) (i : Int) : Option α := (ixN xs.length i).bind fun j => xs[j]?
theorem ixN_seq {n : Nat} {i : Int} {j : Nat} (h : ixN n i = some j) : seqIndex? i n = some j ∧ j < n ∧ -(n : Int) ≤ i ∧ i < n := by
  unfold ixN at h
  by_cases h0 : 0 ≤ i
  · rw [if_pos h0] at h
    by_cases h1 : i < n
    · rw [if_pos h1] at h
      have e : i.toNat = j := Option.some.inj h
      exact ⟨by rw [seqIndex_of h0 h1, e], by omega, by omega, h1⟩
    · rw [if_neg h1] at h; cases h
  · rw [if_neg h0] at h
    by_cases h1 : -(n : Int) ≤ i
    · rw [if_pos h1] at h
      have e : (i + n).toNat = j := Option.some.inj h
      exact ⟨by rw [seqIndex_neg (by omega) h1, e], by omega, h1, by omega⟩
    · rw [if_neg h1] at h; cases h
theorem atI_get {α : Type} {xs : List α} {i : Int} {v : α} (h : atI xs i = some v) : ∃ j, seqIndex? i xs.length = some j ∧ xs[j]? = some v ∧ j < xs.length ∧ -(xs.length : Int) ≤ i ∧ i < xs.length := by
  unfold atI at h
  cases e : ixN xs.length i with
  | none => rw [e] at h; cases h
  | some j =>
    rw [e] at h
    obtain ⟨h1, h2, h3, h4⟩ := ixN_seq e
    exact ⟨j, h1, h, h2, h3, h4⟩
theorem atI_nat {α : Type} {xs : List α} {j : Nat} {v : α} (h : xs[j]? = some v) : atI xs (j : Int) = some v := by
  have hj : j < xs.length := (List.getElem?_eq_some_iff.mp h).1
  have e : ixN xs.length (j : Int) = some j := by
    unfold ixN
    rw [if_pos (by omega), if_pos (by omega)]; simp
  unfold atI; rw [e]; exact h
/-! ### what may be subscripted -/
/-- what stands as an index of a plain subscript -/
def PlainIx (b : Expr) : Prop := ∀ o i, subscripted b false o i = operate [o, i] (getItem o i)
/-- a subscript by values -/
def IxR (X : Cx) (r : R2) : Prop :=
  ∀ (value slice : Expr) (pins : List (Addr × Obj)) (s : Shared) (σ : St) (H : Hp) (x y : V) (v u : Value) (Q : VK), Inv X pins σ H s → RelV x v → RelV y u → r x y H Q →
    subscripted slice false v u = operate [v, u] (getItem v u) → wpAny (model X.prog X.w) X.A (subscriptTail value slice v u) (EP X pins σ Q) X.xe s
/-- a call of a builtin's method by values: the receiver, the arguments -/
def MtR (X : Cx) (id : String) (r : V → List V → Hp → VK → Prop) : Prop :=
  ∀ (pins : List (Addr × Obj)) (s : Shared) (σ : St) (H : Hp) (x : V) (xs : List V) (v : Value) (us : List Value) (Q : VK), Inv X pins σ H s → RelV x v → Vals xs us → r x xs H Q →
    wpAny (model X.prog X.w) X.A (call (.builtin id) (v :: us)) (EP X pins σ Q) X.xe s
section
variable {X : Cx} {a b : Expr} {ta tb : TE} {pos : Pos}
theorem IxR.or {r r' : R2} (h : IxR X r) (h' : IxR X r') : IxR X (fun x y H Q => r x y H Q ∨ r' x y H Q) := by
  intro value slice pins s σ H x y v u Q I rx ry q hs
  rcases q with q | q
  · exact h value slice pins s σ H x y v u Q I rx ry q hs
  · exact h' value slice pins s σ H x y v u Q I rx ry q hs
/-- a[b] -/
theorem pe_ix {r : R2} (hr : IxR X r) (ha : PE X a ta) (hb : PE X b tb) (hs : PlainIx b) : PE X (.Subscript a b pos) (tOp r ta tb) := by
  intro pins s σ H Q I h
  exact Subscript_ (binT ha hb I h fun v u s2 x y H2 I2 rx ry q => hr a b pins s2 σ H2 x y v u Q I2 rx ry q (hs _ _))

def rIxL (K : PySem.W.Frag) : R2 := fun x y H Q => ∃ p xs i v, x = .ref p ∧ y = .int i ∧ SqL K H p xs ∧ atI xs i = some v ∧ Q v H
def rIxT (K : PySem.W.Frag) : R2 := fun x y H Q => ∃ p xs i v, x = .ref p ∧ y = .int i ∧ SqT K H p xs ∧ atI xs i = some v ∧ Q v H
def rIxS : R2 := fun x y H Q => ∃ z i c, x = .str z ∧ y = .int i ∧ z.length ≤ sizeLine ∧ atI z.cps.toList i = some c ∧ Q (.str ⟨#[c]⟩) H
theorem ix_list : IxR X (rIxL X.K) := by
  intro value slice pins s σ H x y v u Q I rx ry h hs
  obtain ⟨p, xs, i, z, rfl, rfl, hq, he, q⟩ := h
  cases rx
  obtain ⟨t, rfl⟩ := ry
  obtain ⟨its, r, pl, hz⟩ := I.list hq
  obtain ⟨j, h1, h2, h3, h4, h5⟩ := atI_get he
  obtain ⟨w, ew, rw'⟩ := r.get h2
  have hl := r.length
  have hn := line63
  have fin : EP X pins σ Q w s := ⟨z, H, I, rw', q⟩
  by_cases h0 : 0 ≤ i
  · have hj : i.toNat = j := by
      rw [seqIndex_of h0 h5] at h1
      exact Option.some.inj h1
    exact item_listR pl.isList h0 (by omega) (by rw [hj]; simpa using ew) fin hs
  · have hj : (i + (its.toArray.size : Int)).toNat = j := by
      rw [seqIndex_neg (by omega) h4] at h1
      rw [List.size_toArray, ← hl]
      exact Option.some.inj h1
    exact subscriptTail_builtinR (x := w) pl.isList.typeIs slot_list_getitem.lookup
      (wpAny_getItem_list_neg (Q := fun r s' => r = w ∧ EP X pins σ Q r s') pl.isList (by omega) (by rw [List.size_toArray] <;> omega) (by omega) (by rw [hj]; simpa using ew) ⟨rfl, fin⟩) hs
theorem ix_tup : IxR X (rIxT X.K) := by
  intro value slice pins s σ H x y v u Q I rx ry h hs
  obtain ⟨p, xs, i, z, rfl, rfl, hq, he, q⟩ := h
  cases rx
  obtain ⟨t, rfl⟩ := ry
  obtain ⟨its, r, pl, hz⟩ := I.tuple hq
  obtain ⟨j, h1, h2, h3, h4, h5⟩ := atI_get he
  obtain ⟨w, ew, rw'⟩ := r.get h2
  have hl := r.length
  have hn := line63
  have fin : EP X pins σ Q w s := ⟨z, H, I, rw', q⟩
  exact subscriptTail_builtinR (x := w) pl.typeIs slot_tuple_getitem.lookup
    (getItem_tuple (j := j) (Q := fun r s' => r = w ∧ EP X pins σ Q r s') pl (by omega) (by omega) (by rw [List.size_toArray, ← hl]; exact h1) (by simpa using ew) ⟨rfl, fin⟩) hs
theorem ix_str : IxR X rIxS := by
  intro value slice pins s σ H x y v u Q I rx ry h hs
  obtain ⟨z, i, c, rfl, rfl, hz, he, q⟩ := h
  obtain ⟨t, rfl⟩ := rx
  obtain ⟨t', rfl⟩ := ry
  obtain ⟨j, h1, h2, h3, h4, h5⟩ := atI_get he
  have hl : z.cps.toList.length = z.length := by simp [Str.length]
  rw [hl] at h1 h4 h5
  have hn := line63
  exact tail_any (typeIs_str s z t) slot_str_getitem.lookup (getItem_str (c := c) (by
    have e1 : decide (i < -(2 ^ 63 : Int)) = false := decide_eq_false (by omega)
    have e2 : decide (i ≥ 2 ^ 63) = false := decide_eq_false (by omega)
    rw [e1, e2, Bool.or_false]) (by rw [h1]; simpa using h2) ⟨.str ⟨#[c]⟩, H, I.tok _, ⟨_, rfl⟩, q⟩) hs
/-- list, tuple or str -/
def rIx (K : PySem.W.Frag) : R2 := fun x y H Q => rIxL K x y H Q ∨ rIxT K x y H Q ∨ rIxS x y H Q
theorem ix_seq : IxR X (rIx X.K) := ix_list.or (ix_tup.or ix_str)

/-! ### xs[i] = v, any sign -/
def rSetL : V → V → V → Hp → (Hp → Prop) → Prop := fun o i v H Q => ∃ p xs k j, o = .ref p ∧ i = .int k ∧ H p = some (.lst xs) ∧ ixN xs.length k = some j ∧ Q (upd H p (.lst (xs.set j v)))
/-! ### slices -/
theorem slice_bounds (lo hi : Option Int) (n : Nat) : (sliceBounds lo hi none n).1 = ((HT.sIx n 0 lo : Nat) : Int) ∧ (sliceBounds lo hi none n).2.1 = ((HT.sIx n n hi : Nat) : Int) ∧ (sliceBounds lo hi none n).2.2 = 1 := by
  refine ⟨?_, ?_, rfl⟩
  · cases lo with
    | none => simp [sliceBounds, HT.sIx]
    | some i =>
      simp only [sliceBounds, HT.sIx, Option.getD_none, show (1 : Int) > 0 by decide, if_true]
      by_cases h : i < 0
      · simp only [h, if_true] <;> omega
      · simp only [h, if_false] <;> omega
  · cases hi with
    | none => simp [sliceBounds, HT.sIx]
    | some i =>
      simp only [sliceBounds, HT.sIx, Option.getD_none, show (1 : Int) > 0 by decide, if_true]
      by_cases h : i < 0
      · simp only [h, if_true] <;> omega
      · simp only [h, if_false] <;> omega
theorem slicePick_cut (its : List Value) (lo hi : Option Int) : slicePick its.toArray lo hi none = ((its.drop (HT.sIx its.length 0 lo)).take (HT.sIx its.length its.length hi - HT.sIx its.length 0 lo)).toArray := by
  obtain ⟨h1, h2, h3⟩ := slice_bounds lo hi its.toArray.size
  unfold slicePick
  rw [h1, h2, h3]
  simp only [sliceRange_one, pick_run, List.size_toArray] <;> rfl
/-- xs[lo:hi] of a list: a new list -/
def rSlL (K : PySem.W.Frag) : V → Option Int → Option Int → Hp → VK → Prop := fun x lo hi H Q => ∃ a xs, x = .ref a ∧ SqL K H a xs ∧ ∀ p, H p = none → Q (.ref p) (upd H p (.lst (cutV xs lo hi)))
theorem sl_list : SlR X (rSlL X.K) := by
  intro pins s σ H x v vl vu lo hi sl Q I rx hs pl pu h
  obtain ⟨a, xs, rfl, hx, q⟩ := h
  cases rx
  obtain ⟨its, r, ht, hz⟩ := I.list hx
  have hlen := r.length
  refine ⟨"list", _, slot_list_getitem.lookup, ht.isList.typeIs, ?_⟩
  refine wpAny_getItem_list_slice ht.isList hs pl pu .none (by simp) ?_ (by rw [List.size_toArray] <;> omega)
  rw [slicePick_cut, ← hlen]
  refine ⟨.ref s.heap.objs.size, _, I.laid (t' := s.toks) (o := .lst (cutV xs lo hi)) (fun b ob q => Heap.get?_push_of_some _ q) (Nat.le_refl _) ?_, rfl, q _ (I.hok.fresh (Nat.le_refl _))⟩
  exact ⟨Nat.le_trans (cutV_length xs lo hi) hz, _, 0, (r.drop (HT.sIx xs.length 0 lo)).take (HT.sIx xs.length xs.length hi - HT.sIx xs.length 0 lo), Heap.get?_push_size _ rfl⟩

/-! ### in, not in: flat items -/
def flatV : V → Bool
  | .non => true
  | .bl _ => true
  | .int _ => true
  | .str _ => true
  | _ => false
/-- == of flat values -/
def eqV : V → V → Bool
  | .non, .non => true
  | .bl a, .bl b => a == b
  | .bl a, .int b => (if a then 1 else 0) == b
  | .int a, .bl b => a == (if b then 1 else 0)
  | .int a, .int b => a == b
  | .str a, .str b => a == b
  | _, _ => false
theorem eqAt_V {A : Around} {s : Shared} {y x : V} {u v : Value} (ry : RelV y u) (rx : RelV x v) (fy : flatV y = true) (fx : flatV x = true) : SeqAt.EqAt A s u v (eqV y x) := by
  cases y with
  | non =>
    cases ry
    cases x with
    | non => cases rx; exact SeqAt.EqAt.same _
    | bl b => cases rx; exact SeqAt.EqAt.none_bool b
    | int b => obtain ⟨t, rfl⟩ := rx; exact SeqAt.EqAt.none_int b t
    | str b => obtain ⟨t, rfl⟩ := rx; exact SeqAt.EqAt.none_str b t
    | _ => exact absurd (show false = true from fx) Bool.false_ne_true
  | bl a =>
    cases ry
    cases x with
    | non => cases rx; exact SeqAt.EqAt.bool_none a
    | bl b => cases rx; exact SeqAt.EqAt.bool_bool a b
    | int b => obtain ⟨t, rfl⟩ := rx; exact SeqAt.EqAt.bool_int a b t
    | str b => obtain ⟨t, rfl⟩ := rx; exact SeqAt.EqAt.bool_str a b t
    | _ => exact absurd (show false = true from fx) Bool.false_ne_true
  | int a =>
    obtain ⟨t', rfl⟩ := ry
    cases x with
    | non => cases rx; exact SeqAt.EqAt.int_none a t'
    | bl b => cases rx; exact SeqAt.EqAt.int_bool a t' b
    | int b => obtain ⟨t, rfl⟩ := rx; exact SeqAt.EqAt.int_int a t' b t
    | str b => obtain ⟨t, rfl⟩ := rx; exact SeqAt.EqAt.int_str a t' b t
    | _ => exact absurd (show false = true from fx) Bool.false_ne_true
  | str a =>
    obtain ⟨t', rfl⟩ := ry
    cases x with
    | non => cases rx; exact SeqAt.EqAt.str_none a t'
    | bl b => cases rx; exact SeqAt.EqAt.str_bool a t' b
    | int b => obtain ⟨t, rfl⟩ := rx; exact SeqAt.EqAt.str_int a t' b t
    | str b => obtain ⟨t, rfl⟩ := rx; exact SeqAt.EqAt.str_str a t' b t
    | _ => exact absurd (show false = true from fx) Bool.false_ne_true
  | _ => exact absurd (show false = true from fy) Bool.false_ne_true
/-- the items' answers, read off the values (a value's own answer does not lean on its token) -/
def eqU (x : V) (u : Value) : Bool := match u with
  | .none => eqV .non x
  | .bool b => eqV (.bl b) x
  | .int i _ => eqV (.int i) x
  | .str z _ => eqV (.str z) x
  | _ => false
theorem eqU_of {x y : V} {u : Value} (r : RelV y u) (f : flatV y = true) : eqU x u = eqV y x := by
  cases y with
  | non => cases r; rfl
  | bl b => cases r; rfl
  | int i => obtain ⟨t, rfl⟩ := r; rfl
  | str z => obtain ⟨t, rfl⟩ := r; rfl
  | _ => exact absurd (show false = true from f) Bool.false_ne_true
theorem any_eqU {x : V} : ∀ {xs : List V} {us : List Value}, Vals xs us → xs.all flatV = true → us.any (eqU x) = xs.any fun y => eqV y x
  | _, _, .nil, _ => rfl
  | y :: xs, u :: us, .cons r t, f => by
    rw [List.all_cons, Bool.and_eq_true] at f
    rw [List.any_cons, List.any_cons, eqU_of r f.1, any_eqU t f.2]
theorem mem_eqAt {A : Around} {s : Shared} {x : V} {v : Value} (rx : RelV x v) (fx : flatV x = true) : ∀ {xs : List V} {us : List Value}, Vals xs us → xs.all flatV = true → ∀ u ∈ us, SeqAt.EqAt A s u v (eqU x u)
  | _, _, .nil, _ => fun u hu => by cases hu
  | y :: xs, u :: us, .cons r t, f => fun u' hu => by
    rw [List.all_cons, Bool.and_eq_true] at f
    rcases List.mem_cons.mp hu with rfl | hu
    · rw [eqU_of r f.1]; exact eqAt_V r rx f.1 fx
    · exact mem_eqAt rx fx t f.2 u' hu
def inV (x : V) (xs : List V) : Bool := xs.any fun y => eqV y x
/-- x in a list or tuple of flat items -/
def rIn (K : PySem.W.Frag) (neg : Bool) : R2 := fun x y H Q => ∃ p xs, y = .ref p ∧ (SqL K H p xs ∨ SqT K H p xs) ∧ flatV x = true ∧ xs.all flatV = true ∧ Q (.bl (if neg then !inV x xs else inV x xs)) H
theorem op_notIn_seq : OpR X (compareOp .NotIn) (rIn X.K true) := by
  intro pins s σ H x y v u Q I rx ry h
  obtain ⟨p, xs, rfl, hq, fx, fs, q⟩ := h
  cases ry
  rcases hq with hq | hq
  · obtain ⟨its, r, pl, hz⟩ := I.list hq
    refine SeqAt.notIn_listAt (eqU x) pl.isList (fun w hw => mem_eqAt rx fx r fs w (by simpa using hw)) ⟨.bl _, H, I, rfl, ?_⟩
    rw [show its.toArray.any (eqU x) = its.any (eqU x) by simp, any_eqU r fs]
    exact q
  · obtain ⟨its, r, pl, hz⟩ := I.tuple hq
    refine SeqAt.notIn_tupleAt (eqU x) pl (fun w hw => mem_eqAt rx fx r fs w (by simpa using hw)) ⟨.bl _, H, I, rfl, ?_⟩
    rw [show its.toArray.any (eqU x) = its.any (eqU x) by simp, any_eqU r fs]
    exact q
/-! ### len, list(x), tuple(x) of any list or tuple that is read -/
theorem call_list_of : CallR X (.type "list") (fun xs H Q => ∃ p ys, xs = [.ref p] ∧ (SqL X.K H p ys ∨ SqT X.K H p ys) ∧ ∀ l, H l = none → Q (.ref l) (upd H l (.lst ys))) := by
  intro pins s σ H xs us Q I r h
  obtain ⟨p, ys, rfl, hq, q⟩ := h
  obtain ⟨u, rfl, rx⟩ := vals1 r
  cases rx
  have fin : ∀ (its : List Value), Vals ys its → ys.length ≤ sizeLine → ∀ (h' : Heap) (c' : Nat), (∀ b o', s.heap.get? b = some o' → h'.get? b = some o') →
      h'.get? s.heap.objs.size = some { cls := .type "list", dict := none, data := .seq its.toArray c', slots := #[] } → EP X pins σ Q (.ref s.heap.objs.size) { s with heap := h' } := fun its r' hz h' c' kp e =>
    ⟨.ref s.heap.objs.size, _, I.laid (t' := s.toks) kp (Nat.le_refl _) (show ObjOk X.prog X.w _ h' _ (.lst ys) from ⟨hz, its, c', r', e⟩), rfl, q _ (I.hok.fresh (Nat.le_refl _))⟩
  rcases hq with hq | hq
  · obtain ⟨its, r', pl, hz⟩ := I.list hq
    have hlen := r'.length
    obtain ⟨o, ho, hc, n, hd⟩ := pl.isList
    exact call_list_seq p (.inl rfl) ho hc hd (fun h' c' kp e => fin its r' hz h' c' kp e) (by simp only [List.size_toArray] <;> omega)
  · obtain ⟨its, r', pl, hz⟩ := I.tuple hq
    have hlen := r'.length
    obtain ⟨o, ho, hc, n, hd⟩ := pl
    exact call_list_seq p (.inr rfl) ho hc hd (fun h' c' kp e => fin its r' hz h' c' kp e) (by simp only [List.size_toArray] <;> omega)
theorem call_tuple_of : CallR X (.type "tuple") (fun xs H Q => ∃ p ys, xs = [.ref p] ∧ ((SqL X.K H p ys ∧ ∀ l, H l = none → Q (.ref l) (upd H l (.tup ys))) ∨ (SqT X.K H p ys ∧ Q (.ref p) H))) := by
  intro pins s σ H xs us Q I r h
  obtain ⟨p, ys, rfl, h⟩ := h
  obtain ⟨u, rfl, rx⟩ := vals1 r
  cases rx
  rcases h with ⟨hq, q⟩ | ⟨hq, q⟩
  · obtain ⟨its, r', pl, hz⟩ := I.list hq
    have hlen := r'.length
    refine call_tuple_list pl.isList (fun h' kp => ?_) (by simp only [List.size_toArray] <;> omega)
    have I1 : Inv X pins σ H { s with heap := h' } := I.kept (t' := s.toks) kp
    have I2 : Inv X pins σ (upd H h'.objs.size (.tup ys)) { s with heap := h'.push { cls := .type "tuple", data := .seq its.toArray } } :=
      I1.laid (t' := s.toks) (fun b o e => Heap.get?_push_of_some _ e) (Nat.le_refl _) (show ObjOk X.prog X.w _ _ _ (.tup ys) from ⟨hz, its, r', IsTupN.new _ _⟩)
    exact ⟨.ref h'.objs.size, _, I2, rfl, q _ (I1.hok.fresh (Nat.le_refl _))⟩
  · obtain ⟨its, r', pl, hz⟩ := I.tuple hq
    exact call_tuple_same pl ⟨.ref p, H, I, rfl, q⟩

/-! ### the call of a builtin's method: o.m(..) -/
/-- the value is of that builtin type -/
def tyV (K : PySem.W.Frag) (T : String) (x : V) (H : Hp) : Prop := match x with
  | .str _ => T = "str"
  | .int _ => T = "int"
  | .ref p => (T = "list" ∧ ∃ xs, SqL K H p xs) ∨ (T = "tuple" ∧ ∃ o, K.lookup p = some o ∧ o.cls = .type "tuple" ∧ o.dict = none) ∨
      (T = "dict" ∧ ((∃ kvs, H p = some (.dK kvs)) ∨ ∃ kvs, H p = some (.dT kvs))) ∨ (T = "set" ∧ ∃ S n, H p = some (.set S n))
  | _ => False
def tBM0 (K : PySem.W.Frag) (T : String) (r : V → List V → Hp → VK → Prop) (to : TE) : TE := fun σ H Q => to σ H fun x H1 => tyV K T x H1 ∧ r x [] H1 Q
def tBM (K : PySem.W.Frag) (T : String) (r : V → List V → Hp → VK → Prop) (to : TE) (t : TA) : TE := fun σ H Q => to σ H fun x H1 => tyV K T x H1 ∧ t σ H1 fun xs H2 => r x xs H2 Q
variable {o e : Expr} {es : List Expr} {to : TE} {t : TA} {name : Str} {apos cpos : Pos} {T id : String} {r : V → List V → Hp → VK → Prop}
/- xs.append(e), list.index on a module's tuple .. are MtR facts of 06m -/
end
end L2

namespace L2
open PySem PySem.Spec PyProof.Rows

def MtM (X : Cx) (id : String) (r : V → List V → Hp → VK → Prop) : Prop :=
  ∀ (pins : List (Addr × Obj)) (s : Shared) (σ : St) (H : Hp) (x : V) (xs : List V) (v : Value) (us : List Value) (Q : VK), Inv X pins σ H s → RelV x v → Vals xs us → r x xs H Q →
    wpAny (model X.prog X.w) X.A (call (.builtin id) (v :: us)) (EP X pins σ Q) X.xe s

/-! ### lists of values -/
theorem Vals.rep {xs : List V} {us : List Value} (h : Vals xs us) : ∀ k : Nat, Vals (List.replicate k xs).flatten (List.replicate k us).flatten
  | 0 => .nil
  | k + 1 => by
    rw [List.replicate_succ, List.replicate_succ, List.flatten_cons, List.flatten_cons]
    exact Vals.append h (Vals.rep h k)
theorem foldl_rep (its : List Value) : ∀ (k : Nat) (acc : List Value),
    List.foldl (fun x1 x2 => x1 ++ x2) acc.toArray (List.replicate k its.toArray) = (acc ++ (List.replicate k its).flatten).toArray
  | 0, acc => by simp
  | k + 1, acc => by
    have e : acc.toArray ++ its.toArray = (acc ++ its).toArray := by simp
    have e2 : (acc ++ its) ++ (List.replicate k its).flatten = acc ++ (List.replicate (k + 1) its).flatten := by
      rw [List.replicate_succ, List.flatten_cons, List.append_assoc]
    rw [← e2, ← foldl_rep its k (acc ++ its), ← e, List.replicate_succ, List.foldl_cons]

section
variable {X : Cx} {pins : List (Addr × Obj)} {σ : St} {H : Hp} {s : Shared} {l b : Addr} {xs ys zs : List V}

/-! ### the two steps: a tracked list is rewritten, a new list is laid -/
theorem Inv.lnew {its : List Value} {t' : Nat} (I : Inv X pins σ H s) (hv : Vals ys its) (hz : ys.length ≤ sizeLine) :
    Inv X pins σ (upd H s.heap.objs.size (.lst ys)) { s with heap := s.heap.push { cls := .type "list", data := .seq its.toArray }, toks := t' } :=
  I.laid (fun _ _ q => Heap.get?_push_of_some _ q) (Nat.le_refl _) ⟨hz, its, 0, hv, Heap.get?_push_size _ rfl⟩
theorem Inv.fresh (I : Inv X pins σ H s) : H s.heap.objs.size = none := I.hok.fresh (Nat.le_refl _)
theorem Inv.lstM (I : Inv X pins σ H s) (hH : H l = some (.lst xs)) : xs.length ≤ sizeLine ∧ ∃ (its : List Value) (n : Nat), Vals xs its ∧ xs.length = its.length ∧ s.heap.get? l = some { cls := .type "list", data := .seq its.toArray n } := by
  obtain ⟨z, its, n, r, e⟩ := I.hok l _ hH
  exact ⟨z, its, n, r, r.length, e⟩

theorem notLongL {n : Nat} (h : n ≤ sizeLine) : Builtin.List.listTooLong n = false := by
  unfold Builtin.List.listTooLong
  exact decide_eq_false (by omega)
end

section
variable {X : Cx}

/-! ### methods -/
def rAppend : V → List V → Hp → VK → Prop := fun x vs H Q => ∃ l xs y, x = .ref l ∧ vs = [y] ∧ H l = some (.lst xs) ∧ xs.length < sizeLine ∧ Q .non (upd H l (.lst (xs ++ [y])))
def rExtend : V → List V → Hp → VK → Prop := fun x vs H Q => ∃ l b xs zs, x = .ref l ∧ vs = [.ref b] ∧ H l = some (.lst xs) ∧ H b = some (.lst zs) ∧ xs.length + zs.length ≤ sizeLine ∧ Q .non (upd H l (.lst (xs ++ zs)))
def rPop : V → List V → Hp → VK → Prop := fun x vs H Q => ∃ l xs y, x = .ref l ∧ vs = [] ∧ H l = some (.lst xs) ∧ xs[xs.length - 1]? = some y ∧ Q y (upd H l (.lst xs.dropLast))
def rPopAt : V → List V → Hp → VK → Prop := fun x vs H Q => ∃ l xs i k y, x = .ref l ∧ vs = [.int i] ∧ H l = some (.lst xs) ∧ -(2 ^ 63) ≤ i ∧ i < 2 ^ 63 ∧ seqIndex? i xs.length = some k ∧ xs[k]? = some y ∧ Q y (upd H l (.lst (xs.eraseIdx k)))
def rReverse : V → List V → Hp → VK → Prop := fun x vs H Q => ∃ l xs, x = .ref l ∧ vs = [] ∧ H l = some (.lst xs) ∧ Q .non (upd H l (.lst xs.reverse))
def rClear : V → List V → Hp → VK → Prop := fun x vs H Q => ∃ l xs, x = .ref l ∧ vs = [] ∧ H l = some (.lst xs) ∧ Q .non (upd H l (.lst []))
/-! ### list + list, list += list, list * int -/
def rCat : R2 := fun x y H Q => ∃ l b xs zs, x = .ref l ∧ y = .ref b ∧ H l = some (.lst xs) ∧ H b = some (.lst zs) ∧ xs.length + zs.length ≤ sizeLine ∧ ∀ p, H p = none → Q (.ref p) (upd H p (.lst (xs ++ zs)))
theorem op_cat : OpR X (binaryOp .Add) rCat := by
  intro pins s σ H x y v u Q I rx ry h
  obtain ⟨l, b, xs, zs, rfl, rfl, hH, hB, hz, q⟩ := h
  cases rx
  cases ry
  obtain ⟨z, its, n, r, hl, e⟩ := I.lstM hH
  obtain ⟨z2, its2, n2, r2, hl2, e2⟩ := I.lstM hB
  refine PySem.P.add_list e e2 ?_ (by rw [List.size_toArray, List.size_toArray]; omega)
  have ea : its.toArray ++ its2.toArray = (its ++ its2).toArray := by simp
  rw [ea]
  exact ⟨.ref _, _, I.lnew (t' := s.toks) (r.append r2) (by rw [List.length_append]; omega), rfl, q _ I.fresh⟩
/-- a list times an int (a negative one is nothing) -/
def rRep : R2 := fun x y H Q => ∃ l k xs, x = .ref l ∧ y = .int k ∧ H l = some (.lst xs) ∧ -(2 ^ 63) ≤ k ∧ k < 2 ^ 63 ∧ xs.length * k.toNat ≤ sizeLine ∧
  ∀ p, H p = none → Q (.ref p) (upd H p (.lst (List.replicate k.toNat xs).flatten))
theorem len_rep {α : Type} (xs : List α) (k : Nat) : (List.replicate k xs).flatten.length = k * xs.length := by
  induction k with
  | zero => simp
  | succ k ih => rw [List.replicate_succ, List.flatten_cons, List.length_append, ih, Nat.succ_mul, Nat.add_comm]
theorem op_rep : OpR X (binaryOp .Mult) rRep := by
  intro pins s σ H x y v u Q I rx ry h
  obtain ⟨l, k, xs, rfl, rfl, hH, h1, h2, hz, q⟩ := h
  cases rx
  obtain ⟨t, rfl⟩ := ry
  obtain ⟨z, its, n, r, hl, e⟩ := I.lstM hH
  have hlen : its.toArray.size * k.toNat ≤ sizeLine := by rw [List.size_toArray, ← hl]; exact hz
  have hcap : ¬ its.toArray.size * k.toNat > (2 ^ 63 - 1) / 8 := by
    have : (sizeLine : Nat) ≤ (2 ^ 63 - 1) / 8 := by decide
    omega
  have hfit : ¬ (!Builtin.List.listFitsIndex k) = true := by
    rw [fitsIndex_both h1 h2]
    exact Bool.false_ne_true
  have hlong : ¬ Builtin.List.listTooLong (its.toArray.size * k.toNat) = true := by
    rw [notLongL hlen]
    exact Bool.false_ne_true
  have hnew : List.foldl (fun x1 x2 => x1 ++ x2) #[] (List.replicate (if its.toArray.isEmpty = true then 0 else k.toNat) its.toArray) = (List.replicate k.toNat its).flatten.toArray := by
    have f0 : ∀ m : Nat, List.foldl (fun x1 x2 => x1 ++ x2) #[] (List.replicate m its.toArray) = (List.replicate m its).flatten.toArray := fun m => by
      have := foldl_rep its m []
      rw [List.nil_append] at this
      exact this
    rw [f0]
    cases its with
    | nil => simp
    | cons a r' => rw [if_neg (by simp)]
  refine wpAny_binaryOp_repeat_ref (T := "list") (U := "int") (by decide) ⟨_, e, rfl⟩ (fun s' => typeIs_int s' k t) noFill_list_mul F.fills_int_mul F.slot_int_rmul repeat_list F.slot_int_index.lookup
    (call_meets F.slot_int_rmul (typeIs_int s k t) F.entry_int_rmul (F.args_int_rmul_2 _ _) (int___rmul___int_list k t l its.toArray n)
      ⟨e, rfl, ⟨_, e, rfl⟩, call_meets F.slot_list_mul ⟨_, e, rfl⟩ F.entry_list_mul (F.args_list_mul_2 _ _) (AutoListH.list___mul___list_int_3 l its.toArray n k t hfit hcap hlong) ⟨e, ?_⟩⟩)
  rw [hnew]
  exact ⟨.ref _, _, I.lnew (t' := s.toks) (r.rep k.toNat) (by rw [len_rep, Nat.mul_comm]; exact hz), rfl, q _ I.fresh⟩

/-! ### del xs[i] -/
end

/-! ### xs[a:b] = ys -/
section
variable {prog : Program} {w : World} {A : Around} {E : Value → Shared → Prop} {s : Shared}
end

section
variable {X : Cx}
end
end L2

namespace L2
open PySem PySem.Spec PyProof.Rows

theorem Vals.ints : ∀ {ns : List Int} {us : List Value}, Vals (ns.map V.int) us → IntsAre us ns
  | [], us, h => by
    rw [List.map_nil] at h
    cases h
    exact IntsAre.nil
  | n :: ns, us, h => by
    rw [List.map_cons] at h
    cases h with
    | cons r t =>
      obtain ⟨k, rfl⟩ := r
      exact IntsAre.cons n k (Vals.ints t)
theorem vals_of_ints : ∀ {us : List Value} {ns : List Int}, IntsAre us ns → Vals (ns.map V.int) us
  | _, _, .nil => by rw [List.map_nil]; exact Paired.nil
  | _, _, .cons n t h => by rw [List.map_cons]; exact Paired.cons (show RelV (V.int n) (Value.int n t) from ⟨t, rfl⟩) (vals_of_ints h)
theorem Vals.ref1 {a : Addr} {us : List Value} (r : Vals [V.ref a] us) : us = [Value.ref a] := by
  cases r with
  | cons r t =>
    cases t
    cases r
    rfl
/-! ### the library's walks over a list of ints, kept objects alone -/
section
variable {prog : Program} {w : World} {A : Around} {E : Value → Shared → Prop} {s : Shared} {l : Addr} {its : List Value} {ns : List Int} {Q : Value → Shared → Prop}
end

/-! ### the calls, by values (CallR of 03t; MtR of 06l) -/
section
variable {X : Cx}
/-- sum(xs) of a list of ints -/
def rSum (K : PySem.W.Frag) : List V → Hp → VK → Prop := fun vs H Q => ∃ (a : Addr) (ns : List Int), vs = [V.ref a] ∧ SqL K H a (ns.map V.int) ∧ Q (.int ns.sum) H
/-- max(xs), min(xs) of a list of ints -/
def rMax (K : PySem.W.Frag) : List V → Hp → VK → Prop := fun vs H Q => ∃ (a : Addr) (ns : List Int), vs = [V.ref a] ∧ SqL K H a (ns.map V.int) ∧ 0 < ns.length ∧ ∀ m, m ∈ ns → (∀ y, y ∈ ns → y ≤ m) → Q (.int m) H
def rMin (K : PySem.W.Frag) : List V → Hp → VK → Prop := fun vs H Q => ∃ (a : Addr) (ns : List Int), vs = [V.ref a] ∧ SqL K H a (ns.map V.int) ∧ 0 < ns.length ∧ ∀ m, m ∈ ns → (∀ y, y ∈ ns → m ≤ y) → Q (.int m) H
/-! sorted, sort (fewer than 64 items: the library's own bound) -/
def rSorted (K : PySem.W.Frag) : List V → Hp → VK → Prop := fun vs H Q => ∃ (a : Addr) (ns : List Int), vs = [V.ref a] ∧ SqL K H a (ns.map V.int) ∧ ns.length < 64 ∧
  ∀ (ns' : List Int) (p : Addr), ns'.Perm ns → ns'.Pairwise (· ≤ ·) → H p = none → Q (.ref p) (upd H p (.lst (ns'.map V.int)))
def rSortedS (K : PySem.W.Frag) : List V → Hp → VK → Prop := fun vs H Q => ∃ (a : Addr) (xs : List Str), vs = [V.ref a] ∧ SqL K H a (xs.map V.str) ∧ xs.length < 64 ∧
  ∀ (ys : List Str) (p : Addr), ys.Perm xs → sortedS ys = true → H p = none → Q (.ref p) (upd H p (.lst (ys.map V.str)))
theorem small64 {n : Nat} (h : n < 64) : n ≤ sizeLine := by rw [sizeLine_eq]; omega
theorem cr_sorted : CallR X (.builtin "sorted") (rSorted X.K) := by
  intro pins s σ H vs us Q I r h
  obtain ⟨a, ns, rfl, hs, h64, q⟩ := h
  obtain ⟨its, rv, hl, _⟩ := I.list hs
  rw [Vals.ref1 r]
  have hi := rv.ints
  refine PyProof.Rows.sorted_ints hl.isList hi (by rw [hi.length]; exact h64) fun out ns' h1 h2 h3 => ?_
  obtain ⟨ep, he'⟩ := PyProof.Rows.sortedAll_at s.heap its out
  have hlen : (ns'.map V.int).length ≤ sizeLine := by rw [List.length_map, h2.length_eq]; exact small64 h64
  exact ⟨.ref _, upd H (s.heap.objs.size + 1) (.lst (ns'.map V.int)), I.laid (t' := s.toks) (fun _ _ => PyProof.Rows.sortedAll_old) (Nat.le_succ _) ⟨hlen, out.toList, ep, vals_of_ints h1, he'⟩, rfl, q ns' _ h2 h3 (I.hok.fresh (Nat.le_succ _))⟩
/-- xs.sort(), ints -/
def rSort : V → List V → Hp → VK → Prop := fun x xs H Q => ∃ (a : Addr) (ns : List Int), x = V.ref a ∧ xs = [] ∧ H a = some (.lst (ns.map V.int)) ∧ ns.length < 64 ∧
  ∀ ns' : List Int, ns'.Perm ns → ns'.Pairwise (· ≤ ·) → Q .non (upd H a (.lst (ns'.map V.int)))
end

/-! ### list.index, flat items -/
section
variable {X : Cx}
def rIndex (K : PySem.W.Frag) : V → List V → Hp → VK → Prop := fun x xs H Q => ∃ (a : Addr) (ys : List V) (y : V) (j : Nat) (z : V), x = V.ref a ∧ xs = [y] ∧ SqL K H a ys ∧ flatV y = true ∧ ys.all flatV = true ∧ ys[j]? = some z ∧ eqV z y = true ∧
  (∀ (m : Nat) (z' : V), m < j → ys[m]? = some z' → eqV z' y = false) ∧ Q (.int (j : Nat)) H
end

/-! ### type(x) of an own instance; is, is not of a module's class -/
section
variable {X : Cx}
end

/-! ### any(xs), all(xs) of a list of bools -/
section
variable {X : Cx}
def rAny (K : PySem.W.Frag) : List V → Hp → VK → Prop := fun vs H Q => ∃ (a : Addr) (bs : List Bool), vs = [V.ref a] ∧ SqL K H a (bs.map V.bl) ∧ Q (.bl (bs.any id)) H
def rAll (K : PySem.W.Frag) : List V → Hp → VK → Prop := fun vs H Q => ∃ (a : Addr) (bs : List Bool), vs = [V.ref a] ∧ SqL K H a (bs.map V.bl) ∧ Q (.bl (bs.all id)) H
end

/-! ### == and != of data at any depth: none, bools, ints, texts, lists, tuples -/
mutual
inductive Dp (K : PySem.W.Frag) (H : Hp) : V → PyData → Prop
  | non : Dp K H .non .none
  | bl (b : Bool) : Dp K H (.bl b) (.bool b)
  | int (i : Int) : Dp K H (.int i) (.int i)
  | str (x : Str) : Dp K H (.str x) (.str x)
  | lst {a : Addr} {xs : List V} {ds : List PyData} : SqL K H a xs → DpAll K H xs ds → Dp K H (.ref a) (.list ds)
  | tup {a : Addr} {xs : List V} {ds : List PyData} : SqT K H a xs → DpAll K H xs ds → Dp K H (.ref a) (.tuple ds)
inductive DpAll (K : PySem.W.Frag) (H : Hp) : List V → List PyData → Prop
  | nil : DpAll K H [] []
  | cons {v : V} {vs : List V} {d : PyData} {ds : List PyData} : Dp K H v d → DpAll K H vs ds → DpAll K H (v :: vs) (d :: ds)
end
section
variable {X : Cx} {pins : List (Addr × Obj)} {σ : St} {H : Hp} {s : Shared}
mutual
theorem Dp.reads (I : Inv X pins σ H s) : ∀ (d : PyData) (v : V) (u : Value), Dp X.K H v d → RelV v u → ∃ as, Reads s.heap u d as
  | .none, _, _, h, r => by
    cases h
    cases r
    exact ⟨_, Reads.none⟩
  | .bool b, _, _, h, r => by
    cases h
    cases r
    exact ⟨_, Reads.bool b⟩
  | .int i, _, _, h, r => by
    cases h
    obtain ⟨t, rfl⟩ := r
    exact ⟨_, Reads.int i t⟩
  | .str x, _, _, h, r => by
    cases h
    obtain ⟨t, rfl⟩ := r
    exact ⟨_, Reads.str x t⟩
  | .list ds, _, _, h, r => by
    cases h with
    | lst hs ha =>
      cases r
      obtain ⟨its, rv, ⟨o, n, ho, hc, _, hd⟩, _⟩ := I.list hs
      obtain ⟨as, hr⟩ := Dp.readsAll I ds _ its ha rv
      exact ⟨_, Reads.list ho hc hd hr⟩
  | .tuple ds, _, _, h, r => by
    cases h with
    | tup hs ha =>
      cases r
      obtain ⟨its, rv, ⟨o, ho, hc, n, hd⟩, _⟩ := I.tuple hs
      obtain ⟨as, hr⟩ := Dp.readsAll I ds _ its ha rv
      exact ⟨_, Reads.tuple ho hc hd hr⟩
  | .dict _, _, _, h, _ => by cases h
theorem Dp.readsAll (I : Inv X pins σ H s) : ∀ (ds : List PyData) (vs : List V) (us : List Value), DpAll X.K H vs ds → Vals vs us → ∃ as, ReadsAll s.heap us ds as
  | [], _, _, h, r => by
    cases h
    cases r
    exact ⟨_, ReadsAll.nil⟩
  | d :: ds, _, _, h, r => by
    cases h with
    | cons h1 h2 =>
      cases r with
      | cons r1 r2 =>
        obtain ⟨as, q1⟩ := Dp.reads I d _ _ h1 r1
        obtain ⟨bs, q2⟩ := Dp.readsAll I ds _ _ h2 r2
        exact ⟨_, ReadsAll.cons q1 q2⟩
end
end
section
variable {X : Cx}
def rEqD (K : PySem.W.Frag) : R2 := fun x y H Q => ∃ d e, Dp K H x d ∧ Dp K H y e ∧ SeqAt.shaped d = true ∧ SeqAt.shaped e = true ∧ Q (.bl (PyData.eqv d e)) H
def rNeD (K : PySem.W.Frag) : R2 := fun x y H Q => ∃ d e, Dp K H x d ∧ Dp K H y e ∧ SeqAt.shaped d = true ∧ SeqAt.shaped e = true ∧ Q (.bl (!PyData.eqv d e)) H
theorem op_eqD (hu : X.A.units + 64 < cLine) : OpR X (compareOp .Eq) (rEqD X.K) := by
  intro pins s σ H x y v u Q I rx ry h
  obtain ⟨d, e, hd, he, sd, se, q⟩ := h
  obtain ⟨as, r1⟩ := Dp.reads I d x v hd rx
  obtain ⟨bs, r2⟩ := Dp.reads I e y u he ry
  exact SeqAt.compareEq_shaped r1 r2 sd se hu ⟨.bl _, H, I, rfl, q⟩
theorem op_neD (hu : X.A.units + 64 < cLine) : OpR X (compareOp .NotEq) (rNeD X.K) := by
  intro pins s σ H x y v u Q I rx ry h
  obtain ⟨d, e, hd, he, sd, se, q⟩ := h
  obtain ⟨as, r1⟩ := Dp.reads I d x v hd rx
  obtain ⟨bs, r2⟩ := Dp.reads I e y u he ry
  exact SeqAt.compareNe_shaped r1 r2 sd se hu ⟨.bl _, H, I, rfl, q⟩
end
end L2

namespace L2
open PySem PySem.Spec PyProof.Rows
abbrev CellAt (h : Heap) (c : Addr) (v : Option Value) : Prop := h.IsCell c v
def relS (scope sc : Scope) : Scope :=
  { scope with names := scope.names.map fun (n, k) => if (k == .free && sc.kind == .function && sc.names.lookup n == some .cell) then (n, .cell) else (n, k) }

def cloFrom (cells : List (Str × Addr)) : List (Str × NameKind) → List (Str × Addr) → List (Str × Addr)
  | [], acc => acc
  | (n, k) :: r, acc => if k == .free then cloFrom cells r ((n, (cells.lookup n).getD 0) :: acc) else cloFrom cells r acc

theorem closure_loop (env : Env) (f : Str × NameKind → List (Str × Addr) → Sem (ForInStep (List (Str × Addr))))
    (hf : ∀ n k c, f (n, k) c = if k == .free then (do let a ← cellOf env n; pure (.yield ((n, a) :: c))) else pure (.yield c)) :
    ∀ (names : List (Str × NameKind)) (acc : List (Str × Addr)), (∀ y ∈ names, y.2 = .free → ∃ c, env.cells.lookup y.1 = some c) → forIn names acc f = pure (cloFrom env.cells names acc)
  | [], acc, _ => by rw [List.forIn_nil]; rfl
  | (n, k) :: r, acc, h => by
    rw [List.forIn_cons, hf]
    have ih := fun acc => closure_loop env f hf r acc fun y hy => h y (List.mem_cons_of_mem _ hy)
    unfold cloFrom
    by_cases hk : (k == NameKind.free) = true
    · rw [if_pos hk, if_pos hk]
      obtain ⟨c, hc⟩ := h (n, k) List.mem_cons_self (by simpa using hk)
      have e : cellOf env n = pure c := by unfold cellOf; rw [hc]
      rw [e]
      have e2 : (env.cells.lookup n).getD 0 = c := by rw [hc]; rfl
      rw [e2]
      exact ih _
    · rw [if_neg hk, if_neg hk]
      exact ih _
theorem closure_ok {scope : Scope} {env : Env} (h : ∀ y ∈ scope.names, y.2 = .free → ∃ c, env.cells.lookup y.1 = some c) : closureFor scope env = pure (cloFrom env.cells scope.names []) := by
  simp only [closureFor]
  rw [closure_loop env _ (fun n k c => rfl) scope.names [] h]
  rfl

theorem mem_lookup {α : Type} : ∀ {l : List (Str × α)} {n : Str} {c : α}, (n, c) ∈ l → ∃ c', l.lookup n = some c'
  | (k, v) :: r, n, c, h => by
    rw [List.lookup_cons]
    cases hb : n == k with
    | true => exact ⟨_, rfl⟩
    | false =>
      rcases List.mem_cons.mp h with e | h
      · cases e; simp at hb
      · exact mem_lookup h

theorem cloFrom_mem {cells : List (Str × Addr)} : ∀ {names : List (Str × NameKind)} {acc : List (Str × Addr)} {n : Str} {c : Addr}, (n, c) ∈ cloFrom cells names acc → (n, c) ∈ acc ∨ ((n, .free) ∈ names ∧ c = (cells.lookup n).getD 0)
  | [], _, _, _, h => .inl h
  | (m, k) :: r, acc, n, c, h => by
    unfold cloFrom at h
    split at h
    · rename_i hk
      have hk : k = .free := by simpa using hk
      rcases cloFrom_mem h with h | ⟨h1, h2⟩
      · rcases List.mem_cons.mp h with e | h
        · cases e; exact .inr ⟨hk ▸ List.mem_cons_self, rfl⟩
        · exact .inl h
      · exact .inr ⟨List.mem_cons_of_mem _ h1, h2⟩
    · rcases cloFrom_mem h with h | ⟨h1, h2⟩
      · exact .inl h
      · exact .inr ⟨List.mem_cons_of_mem _ h1, h2⟩
theorem cloFrom_acc {cells : List (Str × Addr)} : ∀ {names : List (Str × NameKind)} {acc : List (Str × Addr)} {p : Str × Addr}, p ∈ acc → p ∈ cloFrom cells names acc
  | [], _, _, h => h
  | (m, k) :: r, acc, p, h => by
    unfold cloFrom
    split
    · exact cloFrom_acc (List.mem_cons_of_mem _ h)
    · exact cloFrom_acc h
theorem cloFrom_has {cells : List (Str × Addr)} : ∀ {names : List (Str × NameKind)} {acc : List (Str × Addr)} {n : Str}, (n, .free) ∈ names → (n, (cells.lookup n).getD 0) ∈ cloFrom cells names acc
  | (m, k) :: r, acc, n, h => by
    unfold cloFrom
    rcases List.mem_cons.mp h with e | h
    · cases e
      exact cloFrom_acc List.mem_cons_self
    · split
      · exact cloFrom_has h
      · exact cloFrom_has h

theorem cells_mem : ∀ {names : List (Str × NameKind)} {h : Heap} {acc : List (Str × Addr)} {x : Str} {c : Addr}, (x, c) ∈ cellsFrom h.objs.size names acc →
    (x, c) ∈ acc ∨ ((x, .cell) ∈ names ∧ h.objs.size ≤ c ∧ CellAt (pushCells h names) c none)
  | [], _, _, _, _, h => .inl h
  | (n, k) :: r, h, acc, x, c, hm => by
    unfold cellsFrom at hm
    unfold pushCells
    split at hm
    · rename_i hk
      rw [if_pos hk]
      have hk : k = .cell := by simpa using hk
      rw [← Heap.size_push h { cls := .type "cell", data := .cell none }] at hm
      rcases cells_mem hm with hm | ⟨h1, h2, h3⟩
      · rcases List.mem_cons.mp hm with e | hm
        · cases e
          exact .inr ⟨hk ▸ List.mem_cons_self, Nat.le_refl _, _, pushCells_keeps r _ _ _ (Heap.get?_push_size _ rfl), rfl⟩
        · exact .inl hm
      · rw [Heap.size_push] at h2
        exact .inr ⟨List.mem_cons_of_mem _ h1, Nat.le_of_succ_le h2, h3⟩
    · rename_i hk
      rw [if_neg hk]
      rcases cells_mem hm with hm | ⟨h1, h2, h3⟩
      · exact .inl hm
      · exact .inr ⟨List.mem_cons_of_mem _ h1, h2, h3⟩
theorem cells_acc : ∀ {names : List (Str × NameKind)} {n : Nat} {acc : List (Str × Addr)} {p : Str × Addr}, p ∈ acc → p ∈ cellsFrom n names acc
  | [], _, _, _, h => h
  | (m, k) :: r, n, acc, p, h => by
    unfold cellsFrom
    split
    · exact cells_acc (List.mem_cons_of_mem _ h)
    · exact cells_acc h
theorem cells_has : ∀ {names : List (Str × NameKind)} {n : Nat} {acc : List (Str × Addr)} {x : Str}, (x, .cell) ∈ names → ∃ c, (x, c) ∈ cellsFrom n names acc
  | (m, k) :: r, n, acc, x, h => by
    unfold cellsFrom
    rcases List.mem_cons.mp h with e | h
    · cases e
      exact ⟨n, cells_acc List.mem_cons_self⟩
    · split
      · exact cells_has h
      · exact cells_has h
theorem cells_inj : ∀ {names : List (Str × NameKind)} {h : Heap} {acc : List (Str × Addr)} {x y : Str} {c : Addr}, (∀ p ∈ acc, p.2 < h.objs.size) → (∀ x y c, (x, c) ∈ acc → (y, c) ∈ acc → x = y) →
    (x, c) ∈ cellsFrom h.objs.size names acc → (y, c) ∈ cellsFrom h.objs.size names acc → x = y
  | [], _, _, _, _, _, _, hi, h1, h2 => hi _ _ _ h1 h2
  | (n, k) :: r, h, acc, x, y, c, hl, hi, h1, h2 => by
    unfold cellsFrom at h1 h2
    split at h1
    · rename_i hk
      rw [if_pos hk] at h2
      rw [← Heap.size_push h { cls := .type "cell", data := .cell none }] at h1 h2
      refine cells_inj (h := h.push _) (fun p hp => ?_) (fun x y c a b => ?_) h1 h2
      · rw [Heap.size_push]
        rcases List.mem_cons.mp hp with rfl | hp
        · exact Nat.lt_succ_self _
        · exact Nat.lt_succ_of_lt (hl p hp)
      · rcases List.mem_cons.mp a with e | a <;> rcases List.mem_cons.mp b with e' | b
        · cases e; cases e'; rfl
        · cases e; exact absurd (hl _ b) (Nat.lt_irrefl _)
        · cases e'; exact absurd (hl _ a) (Nat.lt_irrefl _)
        · exact hi _ _ _ a b
    · rename_i hk
      rw [if_neg hk] at h2
      exact cells_inj hl hi h1 h2

theorem newEnv_comp {M : Model} {A : Around} {E : Value → Shared → Prop} {s : Shared} {scope : Scope} {globals : Addr} {closure : List (Str × Addr)} {qual : Str} {func : Option Addr} {code : Value} {around : Env} {builtins : Addr} {Q : Env → Shared → Prop}
    (h : Q (newEnv scope s.heap.objs.size globals (cellsFrom (s.heap.objs.size + 1) scope.names closure) qual func code (some around) builtins)
      { s with heap := pushCells (s.heap.push { cls := .type "dict", data := .dict #[] }) scope.names }) :
    wpAny M A (newFunctionEnv scope globals closure [] qual func code (some around) builtins) Q E s := by
  simp only [newFunctionEnv, Option.isSome_some, if_true]
  refine wpAny_bind (wpAny_alloc ?_)
  refine wpAny_bind (wpAny_layCells _ (fun n k c => rfl) scope.names closure _ _ ?_)
  rw [show ({ s with heap := s.heap.push { cls := .type "dict", data := .dict #[] } } : Shared).heap.objs.size = s.heap.objs.size + 1 from Heap.size_push ..]
  rw [List.forIn_nil]
  exact wpAny_bind (wpAny_pure (wpAny_pure h))

/-- every name of the written scope, in the scope that runs -/
theorem lookup_relS {sc : Scope} : ∀ {names : List (Str × NameKind)} {x : Str} {k : NameKind},
    (names.map fun (n, k) => if (k == NameKind.free && sc.kind == .function && sc.names.lookup n == some .cell) then (n, NameKind.cell) else (n, k)).lookup x = some k →
    ∃ k', names.lookup x = some k' ∧ (k = k' ∨ (k' = .free ∧ k = .cell))
  | [], _, _, h => by simp at h
  | (n, k₀) :: r, x, k, h => by
    have ih := @lookup_relS sc r x k
    have h' : List.lookup x ((if (k₀ == NameKind.free && sc.kind == .function && sc.names.lookup n == some .cell) = true then (n, NameKind.cell) else (n, k₀)) :: (r.map _)) = some k := h
    cases hx : x == n with
    | true =>
      simp only [List.lookup_cons, hx]
      by_cases hc : (k₀ == NameKind.free && sc.kind == .function && sc.names.lookup n == some .cell) = true
      · rw [if_pos hc] at h'
        simp only [List.lookup_cons, hx] at h'
        cases h'
        simp only [Bool.and_eq_true, beq_iff_eq] at hc
        exact ⟨k₀, rfl, .inr ⟨hc.1.1, rfl⟩⟩
      · rw [if_neg hc] at h'
        simp only [List.lookup_cons, hx] at h'
        cases h'
        exact ⟨_, rfl, .inl rfl⟩
    | false =>
      simp only [List.lookup_cons, hx]
      by_cases hc : (k₀ == NameKind.free && sc.kind == .function && sc.names.lookup n == some .cell) = true
      · rw [if_pos hc] at h'
        simp only [List.lookup_cons, hx] at h'
        exact ih h'
      · rw [if_neg hc] at h'
        simp only [List.lookup_cons, hx] at h'
        exact ih h'
/-- the names of a comprehension's block: its own (with their places in N), or captured -/
structure BlkOk (N : List Str) (sc scope : Scope) (own : List (Str × Nat)) : Prop where
  kind : scope.kind = .function
  uniq : ∀ y ∈ scope.names, scope.names.lookup y.1 = some y.2
  ix : ∀ p ∈ own, N[p.2]? = some p.1
  free : ∀ y ∈ scope.names, y.2 = .free → sc.names.lookup y.1 = some .cell ∨ sc.names.lookup y.1 = some .free
  own : ∀ y ∈ scope.names, y.2 = .local ∨ y.2 = .cell → y.1 ∈ own.map (·.1) ∨ y.1 ∉ N
/-- the slots of the block's own names forgotten -/
def wipe (σ : St) : List Nat → St
  | [] => σ
  | v :: vs => (wipe σ vs).set v none
theorem wipe_length (σ : St) : ∀ vs : List Nat, (wipe σ vs).length = σ.length
  | [] => rfl
  | v :: vs => by unfold wipe; rw [List.length_set, wipe_length σ vs]
theorem wipe_some {σ : St} {i : Nat} {x : V} : ∀ {vs : List Nat}, (wipe σ vs)[i]? = some (some x) → σ[i]? = some (some x) ∧ i ∉ vs
  | [], h => ⟨h, by simp⟩
  | v :: vs, h => by
    unfold wipe at h
    by_cases hi : v = i
    · subst hi
      by_cases hv : v < (wipe σ vs).length
      · rw [List.getElem?_set_self hv] at h; cases h
      · rw [List.getElem?_eq_none (by simpa using hv)] at h; cases h
    · rw [List.getElem?_set_ne hi] at h
      obtain ⟨h1, h2⟩ := wipe_some h
      exact ⟨h1, by simp only [List.mem_cons, not_or]; exact ⟨fun e => hi e.symm, h2⟩⟩

/-- the context of a block that starts at s, its iterator's objects at fp -/
abbrev Cx.blk (X : Cx) (s : Shared) (H : Hp) (scope : Scope) (cenv : Env) (fp : List Addr) : Cx := { X with s_0 := s, H_0 := H, env := cenv, outer := X.stack, ex := fp, fn := fun x => scope.names.lookup x == some .cell, pn := [], xe := fun _ _ => False }
section
variable {X : Cx} {pins : List (Addr × Obj)} {σ : St} {H : Hp} {s : Shared}
theorem block_start {scope : Scope} {own : List (Str × Nat)} {fp : List Addr} (I : Inv X pins σ H s) (ok : BlkOk X.N X.env.scope scope own) (hN : X.N.Nodup) (hfp : ∀ b ∈ fp, FpOk X pins H b ∧ b < s.heap.objs.size) :
    Inv (X.blk s H scope (compEnvC scope (cellsFrom (s.heap.objs.size + 1) scope.names (cloFrom X.env.cells scope.names [])) s.heap.objs.size X.env) fp) [] (wipe σ (own.map (·.2))) H { s with heap := pushCells (s.heap.push { cls := .type "dict", data := .dict #[] }) scope.names } := by
  have hfree : ∀ y ∈ scope.names, y.2 = .free → ∃ c, X.env.cells.lookup y.1 = some c := fun y hy e => by
    rcases ok.free y hy e with k | k
    · exact I.ok.has _ (.inl k)
    · exact I.ok.has _ (.inr k)
  generalize hcenv : compEnvC scope (cellsFrom (s.heap.objs.size + 1) scope.names (cloFrom X.env.cells scope.names [])) s.heap.objs.size X.env = cenv
  have kp : ∀ b o, s.heap.get? b = some o → (pushCells (s.heap.push { cls := .type "dict", data := .dict #[] }) scope.names).get? b = some o := fun b o e => pushCells_keeps _ _ _ _ (Heap.get?_push_of_some _ e)
  have hL : cenv.locals = s.heap.objs.size := by rw [← hcenv]; rfl
  have hcl : cenv.cells = cellsFrom (s.heap.objs.size + 1) scope.names (cloFrom X.env.cells scope.names []) := by rw [← hcenv]; rfl
  have hsc : cenv.scope = relS scope X.env.scope := by rw [← hcenv]; rfl
  rw [← Heap.size_push s.heap { cls := .type "dict", data := .dict #[] }] at hcl
  have cm : ∀ {y c}, (y, c) ∈ cloFrom X.env.cells scope.names [] → X.env.cells.lookup y = some c ∧ c < s.heap.objs.size := fun {y c} hm => by
    rcases cloFrom_mem hm with hm | ⟨h1, rfl⟩
    · cases hm
    · obtain ⟨c, hc⟩ := hfree _ h1 rfl
      rw [hc]
      obtain ⟨w, z⟩ := I.cell _ _ hc
      exact ⟨rfl, z.lt⟩
  have mem : ∀ {y c}, cenv.cells.lookup y = some c → (X.env.cells.lookup y = some c ∧ c < s.heap.objs.size) ∨ (s.heap.objs.size + 1 ≤ c ∧ CellAt (pushCells (s.heap.push { cls := .type "dict", data := .dict #[] }) scope.names) c none) := fun {y c} e => by
    rw [hcl] at e
    rcases cells_mem (PySem.mem_of_lookup e) with hm | ⟨_, h2, h3⟩
    · exact .inl (cm hm)
    · rw [Heap.size_push] at h2; exact .inr ⟨h2, h3⟩
  have look : ∀ {y}, scope.names.lookup y = some .free → ∃ c, cenv.cells.lookup y = some c ∧ X.env.cells.lookup y = some c := fun {y} hl => by
    have hy : (y, NameKind.free) ∈ scope.names := PySem.mem_of_lookup hl
    obtain ⟨c', e'⟩ := mem_lookup (cells_acc (names := scope.names) (n := (s.heap.push { cls := .type "dict", data := .dict #[] }).objs.size) (cloFrom_has (cells := X.env.cells) (acc := []) hy))
    rw [← hcl] at e'
    refine ⟨c', e', ?_⟩
    rw [hcl] at e'
    rcases cells_mem (PySem.mem_of_lookup e') with hm | ⟨h1, _, _⟩
    · exact (cm hm).1
    · have := ok.uniq _ h1
      rw [hl] at this; cases this
  have okB : (X.blk s H scope cenv fp).Ok := by
    refine ⟨I.ok.mod, by show cenv.scope.kind = _; rw [hsc]; exact ok.kind, by show cenv.globals = _; rw [← hcenv]; exact I.ok.glob, by show cenv.builtins = _; rw [← hcenv]; exact I.ok.blt, by show s.heap.objs.size ≤ cenv.locals; rw [hL]; exact Nat.le_refl _,
      fun y z c e1 e2 => ?_, fun y hy => ?_, fun y c z e => ?_, I.ok.hd, I.ok.frames, .inl rfl, fun b hb => ⟨?_, fun y c e z => ?_⟩, I.bs, Nat.le_trans I.ok.bsz I.sz, fun b o e hb => ?_, fun b hb z => ?_, I.stack, I.stkFree⟩
    · have e1 : cenv.cells.lookup y = some c := e1
      have e2 : cenv.cells.lookup z = some c := e2
      rw [hcl] at e1 e2
      refine cells_inj (fun p hp => ?_) (fun y z c a b => I.ok.inj y z c (cm a).1 (cm b).1) (PySem.mem_of_lookup e1) (PySem.mem_of_lookup e2)
      rw [Heap.size_push]
      exact Nat.lt_succ_of_lt (cm (y := p.1) (c := p.2) hp).2
    · show ∃ c, cenv.cells.lookup y = some c
      have key : ∀ k, cenv.kindOf y = some k → (k = .cell ∨ k = .free) → ∃ c, cenv.cells.lookup y = some c := fun k hk hk' => by
        unfold Env.kindOf at hk
        rw [hsc] at hk
        obtain ⟨k', e, r⟩ := lookup_relS hk
        have : k' = .cell ∨ k' = .free := by
          rcases r with rfl | ⟨rfl, _⟩
          · exact hk'
          · exact .inr rfl
        rcases this with rfl | rfl
        · obtain ⟨c, hm⟩ := cells_has (n := (s.heap.push { cls := .type "dict", data := .dict #[] }).objs.size) (acc := cloFrom X.env.cells scope.names []) (PySem.mem_of_lookup e)
          obtain ⟨c', e'⟩ := mem_lookup hm
          exact ⟨c', by rw [hcl]; exact e'⟩
        · obtain ⟨c, h1, _⟩ := look e
          exact ⟨c, h1⟩
      rcases hy with hy | hy
      · exact key _ hy (.inl rfl)
      · exact key _ hy (.inr rfl)
    · have z : (scope.names.lookup y == some NameKind.cell) = true := z
      have z : scope.names.lookup y = some .cell := by simpa using z
      have e : cenv.cells.lookup y = some c := e
      rw [hcl] at e
      rcases cells_mem (PySem.mem_of_lookup e) with hm | ⟨_, h2, _⟩
      · rcases cloFrom_mem hm with hm | ⟨h1, _⟩
        · cases hm
        · have q := ok.uniq _ h1
          rw [z] at q; cases q
      · rw [Heap.size_push] at h2
        exact Nat.le_of_succ_le h2
    · show b ≠ cenv.locals
      rw [hL]; exact Nat.ne_of_lt (hfp b hb).2
    · have e : cenv.cells.lookup y = some c := e
      rcases mem e with ⟨h1, _⟩ | ⟨h1, _⟩
      · exact (hfp b hb).1.2.2.2.2.1 y c h1 z
      · have h2 : s.heap.objs.size + 1 ≤ b := by rw [← z]; exact h1
        exact absurd (Nat.lt_of_lt_of_le (hfp b hb).2 (Nat.le_of_succ_le h2)) (Nat.lt_irrefl _)
    · rcases (hfp b hb).1.2.2.2.1 with z | z
      · exact I.ok.noex b o e z
      · exact absurd (Nat.lt_of_lt_of_le (Heap.lt_size e) (Nat.le_trans I.ok.bsz z)) (Nat.lt_irrefl _)
    · rcases List.mem_cons.mp (I.stkSub b z) with z | z
      · exact (hfp b hb).1.2.1 z
      · exact (hfp b hb).1.2.2.1 z
  refine ⟨okB, rfl, I.bare, Un.kept kp, ⟨fun _ => none, ?_, fun i y av e1 e2 e3 => ?_⟩, fun y c e => ?_, ?_, fun y c e => ?_, fun p hp => ?_, I.hok.kept kp, by rw [wipe_length]; exact I.len⟩
  · show Heap.Ns _ cenv.locals _
    rw [hL]
    exact Heap.Ns.keeps (Heap.Ns.new ..) fun b o e => pushCells_keeps _ _ _ _ e
  · obtain ⟨e2, hne⟩ := wipe_some e2
    have hfr : scope.names.lookup y = some .free ∧ (cenv.kindOf y = some .cell ∨ cenv.kindOf y = some .free) := by
      have key : ∀ k, cenv.scope.names.lookup y = some k → k = .local ∨ k = .cell ∨ k = .free → scope.names.lookup y = some .free ∧ (cenv.kindOf y = some .cell ∨ cenv.kindOf y = some .free) := fun k hk hk' => by
        have hk0 := hk
        rw [hsc] at hk
        obtain ⟨k', e, r⟩ := lookup_relS hk
        have no : ¬ (k' = .local ∨ k' = .cell) := fun hh => by
          rcases ok.own _ (PySem.mem_of_lookup e) hh with e' | e'
          · obtain ⟨p, hp, hpy⟩ := List.mem_map.mp e'
            have e3 := ok.ix p hp
            have : p.1 = y := hpy
            rw [this] at e3
            exact hne (List.mem_map.mpr ⟨p, hp, nodup_ix hN e3 e1⟩)
          · exact e' (List.mem_of_getElem? e1)
        rcases r with rfl | ⟨rfl, rfl⟩
        · rcases hk' with rfl | rfl | rfl
          · exact absurd (.inl rfl) no
          · exact absurd (.inr rfl) no
          · exact ⟨e, .inr hk0⟩
        · exact ⟨e, .inl hk0⟩
      have e3 : Vis cenv.scope y := e3
      rcases e3 with e3 | e3 | e3
      · exact key _ e3 (.inl rfl)
      · exact key _ e3 (.inr (.inl rfl))
      · exact key _ e3 (.inr (.inr rfl))
    obtain ⟨m, hn, hl⟩ := I.loc
    have hvis : Vis X.env.scope y := (ok.free _ (PySem.mem_of_lookup hfr.1) rfl).elim (fun k => .inr (.inl k)) (fun k => .inr (.inr k))
    obtain ⟨w, r, q⟩ := hl i y av e1 e2 hvis
    refine ⟨w, r, .inr ⟨hfr.2, ?_⟩⟩
    obtain ⟨c, h1, h2⟩ := look hfr.1
    rcases q with ⟨k, _⟩ | ⟨_, c', e', z⟩
    · have k : X.env.scope.names.lookup y = some .local := k
      rcases ok.free _ (PySem.mem_of_lookup hfr.1) rfl with k' | k' <;> rw [show X.env.scope.names.lookup y = _ from k'] at k <;> cases k
    · rw [h2] at e'; cases e'
      exact ⟨c, h1, z.keeps kp⟩
  · have e : cenv.cells.lookup y = some c := e
    rcases mem e with ⟨h1, _⟩ | ⟨_, z⟩
    · obtain ⟨w, z⟩ := I.cell y c h1
      exact ⟨w, z.keeps kp⟩
    · exact ⟨_, z⟩
  · show H cenv.locals = none
    rw [hL]; exact I.hok.fresh (Nat.le_refl _)
  · have e : cenv.cells.lookup y = some c := e
    rcases mem e with ⟨h1, _⟩ | ⟨h1, _⟩
    · exact I.freeC y c h1
    · exact I.hok.fresh (Nat.le_of_succ_le h1)
  · exact absurd (show p ∈ ([] : List (Addr × Obj)) ++ [] from hp) (by simp)

/-- an item appended to a tracked list -/
theorem app_ok {E : Value → Shared → Prop} {D : Addr} {xs : List V} {y : V} {v : Value} {Q : Value → Shared → Prop} (I : Inv X pins σ H s) (hD : H D = some (.lst xs)) (hz : xs.length < sizeLine) (r : RelV y v)
    (h : ∀ s', Inv X pins σ (upd H D (.lst (xs ++ [y]))) s' → Q .none s') : wpAny (model X.prog X.w) X.A (call (.builtin "list.append") [.ref D, v]) Q E s := by
  obtain ⟨hz', its, n, ri, e⟩ := I.hok D _ hD
  have hl := ri.length
  refine append_at (hsz := by rw [List.size_toArray]; omega) e fun h' sb ho' => ?_
  refine h { s with heap := h' } (I.write (t' := s.toks) (by rw [hD]; trivial) (.inl rfl) (fun b u hb q => (sb.2 b hb).trans q) ⟨_, ho'⟩ ⟨by rw [List.length_append]; exact hz, its ++ [v], n + 1, ri.append (.cons r .nil), ?_⟩)
  rw [ho']
  simp

/-- a clause's tests -/
def PTs (X : Cx) (ifs : List Expr) (t : TT) : Prop :=
  ∀ (pins : List (Addr × Obj)) (s : Shared) (σ : St) (H : Hp) (Q : Bool → Hp → Prop), Inv X pins σ H s → t σ H Q →
    wpAny (model X.prog X.w) X.A (forIn ifs true fun c r => if r = true then do let ok ← isTrue c X.env (eval c X.env); pure (ForInStep.yield ok) else pure (ForInStep.yield r)) (TP X pins σ Q) X.xe s
def tYes : TT := fun _ H Q => Q true H
theorem pts_nil : PTs X [] tYes := fun _ _ _ H _ I h => wpAny_tests_nil ⟨H, I, h⟩
theorem pts_one {c : Expr} {t : TT} (h : PT X c t) : PTs X [c] t := fun pins s σ H Q I hw => wpAny_tests_one (h pins s σ H Q I hw)
end

theorem thnF {α : Type} {t : Sem α} {Q Q' : α → Shared → Prop} {M : Model} {A : Around} {E : Value → Shared → Prop} {s : Shared} (h : wpAny M A t Q (fun _ _ => False) s) (hQ : ∀ a s, Q a s → Q' a s) : wpAny M A t Q' E s := wpAny_mono h hQ fun _ _ z => False.elim z

/-- the loop of a list comprehension's block, the target of any form (codeAny_compLoop_tests asks a target that no tuple goes to; statement and proof follow it, PyProof/CompMap.lean:41-61, with the step letOwnedTupleGo kept) -/
theorem compLoop_any {prog : Program} {w : World} {A : Around} {R : Result → Shared → Prop} {s : Shared} {elt target iter : Expr} {ifs : List Expr} {scope : Scope} {pos : Pos} {it acc : Value} {env : Env} (I : Nat → Shared → Prop)
    (turn : ∀ n s, I n s → wpAny (model prog w) A (pyNext it) (fun r s₁ => match r with
      | none => R (.ok .next) s₁
      | some v => wpAny (model prog w) A (letOwnedTupleGo target it v) (fun _ s₁' => wpAny (model prog w) A (assign target env v) (fun _ s₂ =>
          wpAny (model prog w) A (forIn ifs true fun c r => if r = true then do let ok ← isTrue c env (eval c env); pure (ForInStep.yield ok) else pure (ForInStep.yield r)) (fun ok s₃ =>
            if ok = true then wpAny (model prog w) A (eval elt env) (fun x s₄ =>
              wpAny (model prog w) A (call (.builtin "list.append") [acc, x]) (fun _ s₅ => ∃ m, m < n ∧ I m s₅) (notedBy (model prog w) A env fun e s' => R (.error e) s') s₄) (notedBy (model prog w) A env fun e s' => R (.error e) s') s₃
            else ∃ m, m < n ∧ I m s₃) (notedBy (model prog w) A env fun e s' => R (.error e) s') s₂) (notedBy (model prog w) A env fun e s' => R (.error e) s') s₁') (notedBy (model prog w) A env fun e s' => R (.error e) s') s₁) (notedBy (model prog w) A env fun e s' => R (.error e) s') s)
    (n : Nat) (h : I n s) :
    codeAny (model prog w) A (.compLoop (.ListComp elt [⟨target, iter, ifs, 0⟩] scope pos) 0 it acc env) R s := by
  refine codeAny_loop rfl I (fun n s hI => ?_) n h
  show wpAny _ A ((compTurn (.ListComp elt [⟨target, iter, ifs, 0⟩] scope pos) 0 it acc env).onRaise (fun x => do noteFrame x env; theTreesLotGoes x)) _ _ s
  refine wpAny_noted ?_
  rw [compTurn_list]
  refine wpAny_bind (wpAny_standAt (wpAny_bind (wpAny_mono (turn n s hI) (fun r s₁ h₁ => ?_) fun _ _ h' => h')))
  cases r with
  | none => exact wpAny_pure h₁
  | some v =>
    refine wpAny_bind (wpAny_mono h₁ (fun _ s₁' h₁' => ?_) fun _ _ h' => h')
    refine wpAny_bind (wpAny_mono h₁' (fun _ s₂ h₂ => wpAny_bind (wpAny_mono h₂ (fun ok s₃ h₃ => ?_) fun _ _ h' => h')) fun _ _ h' => h')
    cases ok with
    | false => exact wpAny_pure ⟨rfl, h₃⟩
    | true =>
      exact wpAny_bind (wpAny_bind (wpAny_mono h₃ (fun x s₄ h₄ => wpAny_bind (wpAny_mono h₄ (fun _ s₅ h₅ => wpAny_pure (wpAny_pure ⟨rfl, h₅⟩)) fun _ _ h' => h')) fun _ _ h' => h'))

section
variable {X : Cx}
/-- [elt for target in iter if ..]: D the new list; W by the turn and a measure, Nx what a turn is to reach -/
def tLc (wi : TI) (g : TG) (tt : TT) (te : TE) (vs : List Nat) : TE := fun σ H Q => wi σ H fun J H1 => ∀ D, H1 D = none → ∃ W : Nat → Nat → Hp → Prop, (∃ m, W 0 m (upd H1 D (.lst []))) ∧ ∀ i m H, W i m H →
  (J.stop i H ∧ Q (.ref D) H) ∨ (J.go i H ∧ ∃ Nx : Hp → Prop, (∀ H', Nx H' → ∃ m', m' < m ∧ W (i + 1) m' H') ∧ ∀ x H', J.yld i H x H' → g x (wipe σ vs) H' fun σ2 H2 => wipe σ2 vs = wipe σ vs ∧ tt σ2 H2 fun b H3 =>
    if b = true then te σ2 H3 fun y H4 => ∃ acc, H4 D = some (.lst acc) ∧ acc.length < sizeLine ∧ Nx (upd H4 D (.lst (acc ++ [y]))) else Nx H3)
theorem lc_core {pins : List (Addr × Obj)} {s : Shared} {σ : St} {H : Hp} {Q : VK} {elt tg iter : Expr} {ifs : List Expr} {scope : Scope} {own : List (Str × Nat)} {pos pos' : Pos} {wi : TI} {g : TG} {tt : TT} {te : TE} {use : Option (Value → Sem Unit)} {Qf : Value → Shared → Prop}
    (hc : X.calm = true) (hN : X.N.Nodup) (I : Inv X pins σ H s) (hi : PI X tg iter wi) (ok : BlkOk X.N X.env.scope scope own)
    (hg : ∀ (s : Shared) (H : Hp) (C : Addr) (cl : List (Str × Addr)) (fp : List Addr), PG (X.blk s H scope (compEnvC scope cl C X.env) fp) tg g) (ht : ∀ (s : Shared) (H : Hp) (C : Addr) (cl : List (Str × Addr)) (fp : List Addr), PTs (X.blk s H scope (compEnvC scope cl C X.env) fp) ifs tt)
    (he : ∀ (s : Shared) (H : Hp) (C : Addr) (cl : List (Str × Addr)) (fp : List Addr), PE (X.blk s H scope (compEnvC scope cl C X.env) fp) elt te) (hs : ∀ x, foldedSetIterable iter X.env x = pure x)
    (h : tLc wi g tt te (own.map (·.2)) σ H Q)
    (hRR : ∀ D C s' m H', Inv X pins σ H' s' → Q (.ref D) H' → s'.heap.Ns C m → FpOk X pins H' C → compPost (model X.prog X.w) X.A X.xe use Qf (.ref D) C (.ok .next) s') :
    wpAny (model X.prog X.w) X.A (comprehension (.ListComp elt [⟨tg, iter, ifs, 0⟩] scope pos) scope X.env pos' (newList []) false (eval iter X.env) use) Qf X.xe s := by
  have hfree : ∀ y ∈ scope.names, y.2 = .free → ∃ c, X.env.cells.lookup y.1 = some c := fun y hy e => by
    rcases ok.free y hy e with k | k
    · exact I.ok.has _ (.inl k)
    · exact I.ok.has _ (.inr k)
  refine wpAny_comprehension_free (use := use) rfl hs (closure_ok hfree) ok.kind (fun y hy e => by rw [ok.uniq y hy, e])
    (thn (hi pins s σ H _ I h) fun xv s1 hx => thn hx fun itv s2 h2 => ?_)
  obtain ⟨it, fp, tn, J, H2, e, I2, T, st2, f2, q⟩ := h2
  subst e
  refine wpAny_newObj_type (newEnv_comp ?_) (by show 0 ≤ sizeLine; decide)
  generalize hD : s2.heap.objs.size = D
  have hDn : H2 D = none := I2.hok.fresh (Nat.le_of_eq hD)
  obtain ⟨W, ⟨m0, w0⟩, turn⟩ := q D hDn
  -- the new list
  generalize hs3 : ({ s2 with heap := s2.heap.push { cls := .type "list", data := .seq ([] : List Value).toArray } } : Shared) = s3
  have I3 : Inv X pins σ (upd H2 D (.lst [])) s3 := by
    rw [← hs3]
    refine I2.laid (t' := s2.toks) (fun b o e => Heap.get?_push_of_some _ e) (Nat.le_of_eq hD) ⟨Nat.zero_le _, [], 0, .nil, ?_⟩
    rw [← hD]
    exact Heap.get?_push_size _ rfl
  have h3 : s3.heap = s2.heap.push { cls := .type "list", data := .seq ([] : List Value).toArray } := by rw [← hs3]
  have sz : ∀ b ∈ fp, b < s2.heap.objs.size := fun b hb => by
    obtain ⟨o, e, _⟩ := T.obj _ _ st2 b hb
    exact Heap.lt_size e
  have f3 : ∀ b ∈ fp, FpOk X pins (upd H2 D (.lst [])) b ∧ b < s3.heap.objs.size := fun b hb => by
    have hlt := sz b hb
    refine ⟨⟨?_, (f2 b hb).2⟩, by rw [h3, Heap.size_push]; exact Nat.lt_succ_of_lt hlt⟩
    rw [upd_ne (by rw [← hD]; exact Nat.ne_of_lt hlt)]
    exact (f2 b hb).1
  have st3 : tn 0 s3.heap := T.keep _ _ _ st2 fun b _ o e => by rw [h3]; exact Heap.get?_push_of_some _ e
  have I4 := block_start I3 ok hN f3
  have pg := hg s3 (upd H2 D (.lst [])) s3.heap.objs.size (cellsFrom (s3.heap.objs.size + 1) scope.names (cloFrom X.env.cells scope.names [])) fp
  have pt := ht s3 (upd H2 D (.lst [])) s3.heap.objs.size (cellsFrom (s3.heap.objs.size + 1) scope.names (cloFrom X.env.cells scope.names [])) fp
  have pe := he s3 (upd H2 D (.lst [])) s3.heap.objs.size (cellsFrom (s3.heap.objs.size + 1) scope.names (cloFrom X.env.cells scope.names [])) fp
  show codeAny _ _ (.compStart (.ListComp elt [⟨tg, iter, ifs, 0⟩] scope pos) 0 (.ref it) (.ref D) (compEnvC scope (cellsFrom (s3.heap.objs.size + 1) scope.names (cloFrom X.env.cells scope.names [])) s3.heap.objs.size X.env)) (compPost (model X.prog X.w) X.A X.xe use Qf (.ref D) s3.heap.objs.size) { s3 with heap := pushCells (s3.heap.push { cls := .type "dict", data := .dict #[] }) scope.names }
  have nfp : ∀ b ∈ fp, (upd H2 D (.lst [])) b = none := fun b hb => (f3 b hb).1.1
  generalize hce : compEnvC scope (cellsFrom (s3.heap.objs.size + 1) scope.names (cloFrom X.env.cells scope.names [])) s3.heap.objs.size X.env = ce at I4 pg pt pe ⊢
  have cL : ce.locals = s3.heap.objs.size := by subst hce; rfl
  generalize hH3 : upd H2 D (.lst []) = H3 at I3 I4 pg pt pe w0 nfp f3
  generalize hs4 : ({ s3 with heap := pushCells (s3.heap.push { cls := .type "dict", data := .dict #[] }) scope.names } : Shared) = s4 at I4 ⊢
  have st4 : tn 0 s4.heap := T.keep _ _ _ st3 fun b _ o e => by rw [← hs4]; exact pushCells_keeps _ _ _ _ (Heap.get?_push_of_some _ e)
  have stat : ∀ {σ' : St} {H' : Hp} {s' : Shared}, Inv (X.blk s3 H3 scope ce fp) [] σ' H' s' → (∀ b ∈ fp, H' b = none) → ∀ b ∈ fp, FpOk (X.blk s3 H3 scope ce fp) [] H' b := fun {σ' H' s'} I' hn b hb =>
    ⟨hn b hb, (I'.ok.exf b hb).1, I'.ok.exfs b hb, .inl hb, fun x c e => (I'.ok.exf b hb).2 x c e, fun p hp => absurd (show p ∈ ([] : List (Addr × Obj)) ++ [] from hp) (by simp)⟩
  have loop : codeAny (model X.prog X.w) X.A (.compLoop (.ListComp elt [⟨tg, iter, ifs, 0⟩] scope pos) 0 (.ref it) (.ref D) ce) (compPost (model X.prog X.w) X.A X.xe use Qf (.ref D) s3.heap.objs.size) s4 := by
    refine compLoop_any (fun n s' => ∃ i H', Inv (X.blk s3 H3 scope ce fp) [] (wipe σ (own.map (·.2))) H' s' ∧ tn i s'.heap ∧ (∀ b ∈ fp, H' b = none) ∧ W i n H') ?_ m0 ⟨0, H3, I4, st4, nfp, w0⟩
    rintro n s5 ⟨i, H5, I5, st5, n5, w5⟩
    rcases turn i n H5 w5 with ⟨stop, qq⟩ | ⟨go, Nx, hNx, step⟩
    · have td := T.done (X.blk s3 H3 scope ce fp) rfl rfl rfl hc i [] s5 _ H5 (fun _ _ => False) I5 (stat I5 n5) st5 stop
      refine thnF td fun r s6 ⟨hr, I6⟩ => ?_
      subst hr
      -- back in the def's context
      have I7 : Inv X pins σ H5 s6 := I3.call' (ch := fp) I6.os I6.base I6.hok I6.bare fun b hb => ⟨(f3 b hb).1.2.2.2.1, (f3 b hb).1.2.1, (f3 b hb).1.2.2.2.2.1, (f3 b hb).1.2.2.2.2.2⟩
      have nC : H5 s3.heap.objs.size = none := by
        have z : H5 ce.locals = none := I6.free
        rw [cL] at z
        exact z
      obtain ⟨m, hn, _⟩ := I6.loc
      have hn : s6.heap.Ns ce.locals m := hn
      rw [cL] at hn
      exact hRR D s3.heap.objs.size s6 m H5 I7 qq hn (I3.fpOk (Nat.le_refl _) nC)
    · have ti := T.item (X.blk s3 H3 scope ce fp) rfl rfl rfl hc i [] s5 _ H5 (fun _ _ => False) I5 (stat I5 n5) st5 go
      refine thnF ti fun r s6 ⟨u, hr, h6⟩ => ?_
      subst hr
      refine thnF h6 fun _ s7 ⟨x, H7, I7, r7, y7, st7, n7⟩ => ?_
      have I7' := I7.pinned (stat I7 n7) (T.obj _ _ st7)
      refine thnF (pg _ s7 _ H7 x u _ I7' r7 (step x H7 y7)) fun _ s8 ⟨σ8, H8, I8, hw8, q8⟩ => ?_
      refine thnF (pt _ s8 σ8 H8 _ I8 q8) fun b s9 ⟨H9, I9, q9⟩ => ?_
      -- the turn's end
      have fin : ∀ {s' : Shared} {H' : Hp}, Inv (X.blk s3 H3 scope ce fp) ([] ++ pinsAt fp s7.heap) σ8 H' s' → Nx H' → ∃ m, m < n ∧ ∃ i H', Inv (X.blk s3 H3 scope ce fp) [] (wipe σ (own.map (·.2))) H' s' ∧ tn i s'.heap ∧ (∀ b ∈ fp, H' b = none) ∧ W i m H' := fun {s' H'} I' nx => by
        obtain ⟨m', hm, w'⟩ := hNx H' nx
        have pin' : ∀ b ∈ fp, ∀ o, s7.heap.get? b = some o → s'.heap.get? b = some o ∧ H' b = none := fun b hb o e =>
          let z := I'.pin (b, o) (List.mem_append_right _ (List.mem_append_right _ (mem_pinsAt hb e)))
          ⟨z.1, z.2.1⟩
        have hl : (wipe σ (own.map (·.2))).length = σ8.length := by rw [← hw8, wipe_length]
        refine ⟨m', hm, i + 1, H', (I'.unpinned (pins := [])).weak hl (fun j v e => ?_), T.keep _ _ _ st7 fun b hb o e => (pin' b hb o e).1, fun b hb => ?_, w'⟩
        · rw [← hw8] at e
          exact (wipe_some e).1
        · obtain ⟨o, e, _⟩ := T.obj _ _ st7 b hb
          exact (pin' b hb o e).2
      cases b with
      | false =>
        simp only [Bool.false_eq_true, if_false] at q9 ⊢
        exact fin I9 q9
      | true =>
        simp only [if_true] at q9 ⊢
        refine thnF (pe _ s9 σ8 H9 _ I9 q9) fun z s10 ⟨yv, H10, I10, r10, acc, hD10, hz10, nx⟩ => ?_
        exact app_ok (X := X.blk s3 H3 scope ce fp) I10 hD10 hz10 r10 fun s11 I11 => fin I11 nx
  exact codeAny_compStart_list loop (T.self X.A 0 _ _ _ st4 loop)
/-- as a value -/
theorem pe_lc {elt tg iter : Expr} {ifs : List Expr} {scope : Scope} {own : List (Str × Nat)} {pos : Pos} {wi : TI} {g : TG} {tt : TT} {te : TE} (hc : X.calm = true) (hN : X.N.Nodup) (hi : PI X tg iter wi) (ok : BlkOk X.N X.env.scope scope own)
    (hg : ∀ (s : Shared) (H : Hp) (C : Addr) (cl : List (Str × Addr)) (fp : List Addr), PG (X.blk s H scope (compEnvC scope cl C X.env) fp) tg g) (ht : ∀ (s : Shared) (H : Hp) (C : Addr) (cl : List (Str × Addr)) (fp : List Addr), PTs (X.blk s H scope (compEnvC scope cl C X.env) fp) ifs tt)
    (he : ∀ (s : Shared) (H : Hp) (C : Addr) (cl : List (Str × Addr)) (fp : List Addr), PE (X.blk s H scope (compEnvC scope cl C X.env) fp) elt te) (hs : ∀ x, foldedSetIterable iter X.env x = pure x := by intro _; rfl) :
    PE X (.ListComp elt [⟨tg, iter, ifs, 0⟩] scope pos) (tLc wi g tt te (own.map (·.2))) := by
  intro pins s σ H Q I h
  rw [eval_ListComp]
  refine lc_core hc hN I hi ok hg ht he hs h fun D C s' m H' I' q hn f => ⟨m, hn, fun h'' sb => ?_⟩
  obtain ⟨f0, f1, f2, f3, f4, f5⟩ := f
  exact ⟨.ref D, H', I'.turned (t' := s'.toks) (fun b o hb e => (sb.2 b hb).trans e) f0 f1 f3 f4 f5, rfl, q⟩
end

/-! ### the forms one uses -/
def blkC (N : List Str) (sc scope : Scope) (own : List (Str × Nat)) : Bool :=
  (match scope.kind with | .function => true | _ => false) && (scope.names.all fun y => decide (scope.names.lookup y.1 = some y.2)) && (own.all fun p => decide (N[p.2]? = some p.1)) &&
    (scope.names.all fun y => match y.2 with
      | .free => (match sc.names.lookup y.1 with | some .cell => true | some .free => true | _ => false)
      | .local => decide (y.1 ∈ own.map (·.1)) || decide (y.1 ∉ N)
      | .cell => decide (y.1 ∈ own.map (·.1)) || decide (y.1 ∉ N)
      | _ => true)
theorem blkOk_by {N : List Str} {sc scope : Scope} {own : List (Str × Nat)} (h : blkC N sc scope own = true) : BlkOk N sc scope own := by
  unfold blkC at h
  simp only [Bool.and_eq_true, List.all_eq_true, decide_eq_true_eq] at h
  obtain ⟨⟨⟨h1, h2⟩, h3⟩, h4⟩ := h
  refine ⟨?_, h2, h3, fun y hy e => ?_, fun y hy e => ?_⟩
  · split at h1
    · assumption
    · cases h1
  · have q := h4 y hy
    simp only [e] at q
    split at q <;> first | exact .inl (by assumption) | exact .inr (by assumption) | cases q
  · have q := h4 y hy
    rcases e with e | e <;> (simp only [e, Bool.or_eq_true, decide_eq_true_eq] at q; exact q)
end L2

namespace L2
open PySem PySem.Spec PyProof.Rows

section
variable {prog : Program} {w : World} {A : Around} {R : Result → Shared → Prop} {s : Shared} {elt t0 i0 t1 i1 : Expr} {ifs0 ifs1 : List Expr} {scope : Scope} {pos : Pos} {it acc : Value} {env : Env}
end

theorem wipe_out {σ : St} {i : Nat} : ∀ {vs : List Nat}, i ∉ vs → (wipe σ vs)[i]? = σ[i]?
  | [], _ => rfl
  | v :: vs, h => by
    have h1 : v ≠ i := fun e => h (by rw [e]; exact List.mem_cons_self)
    have h2 : i ∉ vs := fun m => h (List.mem_cons_of_mem _ m)
    unfold wipe
    rw [List.getElem?_set_ne h1]
    exact wipe_out h2
section
variable {X : Cx}
/-- [elt for tg in iter if .. for tg1 in iter1 if ..]: behind the first clause's store and tests the second source's own loop, from which Nx is reached. vs: the block's names; vs1: those of the second target -/
def tLc2 (wi : TI) (g : TG) (tt : TT) (wi1 : TI) (g1 : TG) (tt1 : TT) (te : TE) (vs vs1 : List Nat) : TE := fun σ H Q => wi σ H fun J H1 => ∀ D, H1 D = none → ∃ W : Nat → Nat → Hp → Prop, (∃ m, W 0 m (upd H1 D (.lst []))) ∧ ∀ i m H, W i m H →
  (J.stop i H ∧ Q (.ref D) H) ∨ (J.go i H ∧ ∃ Nx : Hp → Prop, (∀ H', Nx H' → ∃ m', m' < m ∧ W (i + 1) m' H') ∧ ∀ x H', J.yld i H x H' → g x (wipe σ vs) H' fun σ2 H2 => wipe σ2 vs = wipe σ vs ∧ tt σ2 H2 fun b H3 =>
    if b = true then wi1 σ2 H3 fun J1 H4 => ∃ W1 : Nat → Nat → Hp → Prop, (∃ m, W1 0 m H4) ∧ ∀ j k H, W1 j k H →
      (J1.stop j H ∧ Nx H) ∨ (J1.go j H ∧ ∃ Nx1 : Hp → Prop, (∀ H', Nx1 H' → ∃ k', k' < k ∧ W1 (j + 1) k' H') ∧ ∀ x H', J1.yld j H x H' → g1 x (wipe σ2 vs1) H' fun σ3 H5 => wipe σ3 vs1 = wipe σ2 vs1 ∧ tt1 σ3 H5 fun b H6 =>
        if b = true then te σ3 H6 fun y H7 => ∃ acc, H7 D = some (.lst acc) ∧ acc.length < sizeLine ∧ Nx1 (upd H7 D (.lst (acc ++ [y]))) else Nx1 H6)
    else Nx H3)
end
end L2

namespace L2
open PySem PySem.Spec PyProof.Rows

/-! ### lists of pairs as tables -/
section
variable {κ : Type} [DecidableEq κ]
def valV (kvs : List (κ × V)) (k : κ) : Option V := (kvs.find? fun kv => decide (kv.1 = k)).map (·.2)
/-- in its place, or at the end -/
def putK (kvs : List (κ × V)) (k : κ) (v : V) : List (κ × V) :=
  if (kvs.any fun kv => decide (kv.1 = k)) = true then kvs.map (fun kv => if kv.1 = k then (kv.1, v) else kv) else kvs ++ [(k, v)]
def dropK (kvs : List (κ × V)) (k : κ) : List (κ × V) := kvs.filter fun kv => decide (kv.1 ≠ k)

theorem valV_pos {p : κ × V} {r : List (κ × V)} {k : κ} (e : p.1 = k) : valV (p :: r) k = some p.2 := by simp [valV, List.find?_cons, e]
theorem valV_neg {p : κ × V} {r : List (κ × V)} {k : κ} (e : ¬ p.1 = k) : valV (p :: r) k = valV r k := by simp [valV, List.find?_cons, e]
theorem valV_any (k : κ) : ∀ kvs : List (κ × V), (kvs.any fun kv => decide (kv.1 = k)) = (valV kvs k).isSome
  | [] => rfl
  | p :: r => by
    rw [List.any_cons]
    by_cases e : p.1 = k
    · simp only [valV_pos e, decide_eq_true e, Bool.true_or, Option.isSome_some]
    · rw [valV_neg e, decide_eq_false e, Bool.false_or]; exact valV_any k r
theorem length_putK (kvs : List (κ × V)) (k : κ) (v : V) : (putK kvs k v).length ≤ kvs.length + 1 := by
  unfold putK
  split
  · rw [List.length_map]; omega
  · rw [List.length_append, List.length_cons, List.length_nil]; omega
theorem RelO.isSome_eq {o : Option V} {u : Option Value} (r : RelO o u) : o.isSome = u.isSome := by
  cases o with
  | none => cases u with
    | none => rfl
    | some _ => exact (show False from r).elim
  | some _ => cases u with
    | none => exact (show False from r).elim
    | some _ => rfl
/-- raw tables of the same keys -/
theorem KV.val {kvs : List (κ × V)} {vs : List (κ × Value)} (r : KV kvs vs) (k : κ) : RelO (valV kvs k) (valueAt vs k) := by
  unfold KV at r
  induction r with
  | nil => exact True.intro
  | @cons p q ps qs h t ih =>
    obtain ⟨h1, h2⟩ := h
    by_cases e : p.1 = k
    · have e' : q.1 = k := h1.symm.trans e
      have b : valueAt (q :: qs) k = some q.2 := by simp [valueAt, List.find?_cons, e']
      rw [valV_pos e, b]; exact h2
    · have e' : ¬ q.1 = k := fun z => e (h1.trans z)
      have b : valueAt (q :: qs) k = valueAt qs k := by simp [valueAt, List.find?_cons, e']
      rw [valV_neg e, b]; exact ih
theorem KV.any {kvs : List (κ × V)} {vs : List (κ × Value)} (r : KV kvs vs) (k : κ) : (kvs.any fun kv => decide (kv.1 = k)) = vs.any fun kv => decide (kv.1 = k) := by
  unfold KV at r
  induction r with
  | nil => rfl
  | cons h t ih => rw [List.any_cons, List.any_cons, ih, h.1]
theorem KV.repl {kvs : List (κ × V)} {vs : List (κ × Value)} (r : KV kvs vs) (k : κ) {y : V} {u : Value} (ry : RelV y u) :
    KV (kvs.map fun kv => if kv.1 = k then (kv.1, y) else kv) (vs.map fun kv => if kv.1 = k then (kv.1, u) else kv) := by
  unfold KV at r ⊢
  induction r with
  | nil => exact .nil
  | @cons p q ps qs h t ih =>
    rw [List.map_cons, List.map_cons]
    refine .cons ?_ ih
    obtain ⟨h1, h2⟩ := h
    by_cases e : p.1 = k
    · rw [if_pos e, if_pos (h1.symm.trans e)]; exact ⟨h1, ry⟩
    · rw [if_neg e, if_neg (fun z => e (h1.trans z))]; exact ⟨h1, h2⟩
theorem KV.put {kvs : List (κ × V)} {vs : List (κ × Value)} (r : KV kvs vs) (k : κ) {y : V} {u : Value} (ry : RelV y u) : KV (putK kvs k y) (stored vs k u) := by
  unfold putK stored
  rw [r.any k]
  by_cases e : (vs.any fun kv => decide (kv.1 = k)) = true
  · rw [if_pos e, if_pos e]; exact r.repl k ry
  · rw [if_neg e, if_neg e]; exact Paired.snoc r ⟨rfl, ry⟩
theorem KV.length {kvs : List (κ × V)} {vs : List (κ × Value)} (r : KV kvs vs) : kvs.length = vs.length := Paired.length r
end


/-! ### a tracked dict, its keys ints and texts or tuples of these -/
theorem kV_is {P : Program} {w : World} {k : Key} {u : Value} (r : RelV (kV k) u) : (mixKind P w).is k u = true := by
  cases k with
  | inl i => obtain ⟨t, e⟩ := (show ∃ t, u = Value.int i t from r); subst e; exact mixKind_int P w i t
  | inr x => obtain ⟨t, e⟩ := (show ∃ t, u = Value.str x t from r); subst e; exact mixKind_str P w x t
theorem items_are {P : Program} {w : World} : ∀ {ks : List Key} {us : List Value}, Vals (ks.map kV) us → ItemsAre (mixKind P w) ks us
  | [], _, r => by rw [List.map_nil] at r; cases r; exact .nil
  | k :: ks, _, r => by
    rw [List.map_cons] at r
    cases r with
    | cons h t => exact .cons (kV_is h) (items_are t)

/-- raw entries of a dict with tuple keys -/
abbrev KT (H : Hp) : List (List Key × V) → List (List Key × Addr × Value) → Prop := Paired fun p q => p.1 = q.1 ∧ H q.2.1 = some (.tup (p.1.map kV)) ∧ RelV p.2 q.2.2
theorem KT.val {H : Hp} {kvs : List (List Key × V)} {xs : List (List Key × Addr × Value)} (r : KT H kvs xs) (k : List Key) : RelO (valV kvs k) ((atKey xs k).map (·.2)) := by
  induction r with
  | nil => exact True.intro
  | @cons p q ps qs h t ih =>
    obtain ⟨h1, _, h2⟩ := h
    by_cases e : p.1 = k
    · have e' : q.1 = k := h1.symm.trans e
      have b : atKey (q :: qs) k = some q.2 := by simp [atKey, List.find?_cons, e']
      rw [valV_pos e, b]; exact h2
    · have e' : ¬ q.1 = k := fun z => e (h1.trans z)
      have b : atKey (q :: qs) k = atKey qs k := by simp [atKey, List.find?_cons, e']
      rw [valV_neg e, b]; exact ih
theorem KT.repl {H : Hp} {kvs : List (List Key × V)} {xs : List (List Key × Addr × Value)} (r : KT H kvs xs) (k : List Key) {y : V} {u : Value} (ry : RelV y u) :
    KT H (kvs.map fun kv => if kv.1 = k then (kv.1, y) else kv) (xs.map (putAt k u)) := by
  induction r with
  | nil => exact .nil
  | @cons p q ps qs h t ih =>
    rw [List.map_cons, List.map_cons]
    refine .cons ?_ ih
    obtain ⟨h1, h2, h3⟩ := h
    unfold putAt
    by_cases e : p.1 = k
    · rw [if_pos e, if_pos (h1.symm.trans e)]; exact ⟨h1, h2, ry⟩
    · rw [if_neg e, if_neg (fun z => e (h1.trans z))]; exact ⟨h1, h2, h3⟩
theorem KT.put {H : Hp} {kvs : List (List Key × V)} {xs : List (List Key × Addr × Value)} (r : KT H kvs xs) (k : List Key) {b : Addr} {y : V} {u : Value} (hb : H b = some (.tup (k.map kV))) (ry : RelV y u) :
    KT H (putK kvs k y) (storedH xs k b u) := by
  have e : (kvs.any fun kv => decide (kv.1 = k)) = (atKey xs k).isSome := by
    rw [valV_any, (r.val k).isSome_eq, Option.isSome_map]
  unfold putK storedH
  rw [e]
  by_cases q : (atKey xs k).isSome = true
  · rw [if_pos q, if_pos q]; exact r.repl k ry
  · rw [if_neg q, if_neg q]; exact Paired.snoc r ⟨rfl, hb, ry⟩
theorem KT.keeps {H H' : Hp} {kvs : List (List Key × V)} {xs : List (List Key × Addr × Value)} (r : KT H kvs xs) (ht : ∀ b ys, H b = some (.tup ys) → H' b = some (.tup ys)) : KT H' kvs xs :=
  Paired.mapP r fun _ _ z => ⟨z.1, ht _ _ z.2.1, z.2.2⟩

section
variable {P : Program} {w : World} {H : Hp} {h : Heap} {a : Addr}
theorem rd_of {u : HO} (ok : HOk P w H h) (e : Rd H a u) : ObjOk P w H h a u := e.ok ok
theorem dk_rd {kvs : List (Key × V)} (ok : HOk P w H h) (e : Rd H a (.dK kvs)) : kvs.length ≤ sizeLine ∧ (a == sysModules) = false ∧ ∃ vs, KV kvs vs ∧ h.DictOf (mixKind P w) a vs :=
  show ObjOk P w H h a (.dK kvs) from rd_of ok e
theorem dk_of {kvs : List (Key × V)} (ok : HOk P w H h) (e : H a = some (.dK kvs)) : kvs.length ≤ sizeLine ∧ (a == sysModules) = false ∧ ∃ vs, KV kvs vs ∧ h.DictOf (mixKind P w) a vs := dk_rd ok (.inl e)
/-- a tracked tuple of ints and texts is a key -/
theorem key_of {ks : List Key} (ok : HOk P w H h) (e : H a = some (.tup (ks.map kV))) : (tupleKind (mixKind P w)).is h ks a := by
  obtain ⟨_, its, r, o, h1, h2, n, h3, _⟩ := (show ObjOk P w H h a (.tup (ks.map kV)) from ok a _ e)
  exact ⟨o, its.toArray, n, h1, h2, h3, by simpa using items_are r⟩
theorem dt_rd {kvs : List (List Key × V)} (ok : HOk P w H h) (e : Rd H a (.dT kvs)) : kvs.length ≤ sizeLine ∧ (a == sysModules) = false ∧
    ∃ xs, KT H kvs xs ∧ h.DictOfH (tupleKind (mixKind P w)) a xs := by
  obtain ⟨z, y, xs, r, o, es, ep, h1, h2, h3, h4, h5⟩ := (show ObjOk P w H h a (.dT kvs) from rd_of ok e)
  refine ⟨z, y, xs, r, o, es, ep, h1, h2, h3, h4, fun x hx => ?_, h5⟩
  have all : ∀ {l : List (List Key × V)} {m : List (List Key × Addr × Value)}, KT H l m → ∀ x ∈ m, (tupleKind (mixKind P w)).is h x.1 x.2.1 := by
    intro l m q
    induction q with
    | nil => intro x hx; exact nomatch hx
    | @cons p q ps qs hq t ih =>
      intro x hx
      rcases List.mem_cons.mp hx with e | hx
      · subst e
        exact key_of ok (by rw [← hq.1]; exact hq.2.1)
      · exact ih x hx
  exact all r x hx
theorem dt_of {kvs : List (List Key × V)} (ok : HOk P w H h) (e : H a = some (.dT kvs)) : kvs.length ≤ sizeLine ∧ (a == sysModules) = false ∧
    ∃ xs, KT H kvs xs ∧ h.DictOfH (tupleKind (mixKind P w)) a xs := dt_rd ok (.inl e)
end

/-- what the dict at a holds at the key y -/
def DGet (H : Hp) (a : Addr) (y : V) (r : Option V) : Prop :=
  (∃ kvs k, Rd H a (.dK kvs) ∧ y = kV k ∧ r = valV kvs k) ∨ ∃ kvs k b, Rd H a (.dT kvs) ∧ y = .ref b ∧ H b = some (.tup (k.map kV)) ∧ r = valV kvs k
/-- the heap behind a[y] = v -/
def DPut (H : Hp) (a : Addr) (y v : V) (H' : Hp) : Prop :=
  (∃ kvs k, H a = some (.dK kvs) ∧ y = kV k ∧ kvs.length < sizeLine ∧ H' = upd H a (.dK (putK kvs k v))) ∨
  ∃ kvs k b, H a = some (.dT kvs) ∧ y = .ref b ∧ H b = some (.tup (k.map kV)) ∧ kvs.length < sizeLine ∧ H' = upd H a (.dT (putK kvs k v))
theorem DGet.k {H : Hp} {a : Addr} {kvs : List (Key × V)} {k : Key} (e : H a = some (.dK kvs)) : DGet H a (kV k) (valV kvs k) := .inl ⟨kvs, k, .inl e, rfl, rfl⟩
theorem DPut.k {H : Hp} {a : Addr} {kvs : List (Key × V)} {k : Key} {v : V} (e : H a = some (.dK kvs)) (hl : kvs.length < sizeLine) : DPut H a (kV k) v (upd H a (.dK (putK kvs k v))) := .inl ⟨kvs, k, e, rfl, hl, rfl⟩
section
variable {X : Cx} {pins : List (Addr × Obj)} {σ : St} {H : Hp} {s : Shared} {a : Addr} {y v : V} {u r : Value} {o : Option V} {A : Around} {E : Value → Shared → Prop}

theorem Inv.big (I : Inv X pins σ H s) : sysModules < s.heap.objs.size := by
  have h : mainGlobals < s.heap.objs.size := (I.mod.glob.keeps I.bk).lt
  exact Nat.lt_trans (by decide) h

/-- d[y], there -/
theorem d_getItem {Q : Value → Shared → Prop} (hu : A.units + 1 < cLine) (I : Inv X pins σ H s) (g : DGet H a y (some v)) (ry : RelV y u) (h : ∀ w' s', Inv X pins σ H s' → RelV v w' → Q w' s') :
    wpAny (model X.prog X.w) A (getItem (.ref a) u) Q E s := by
  rcases g with ⟨kvs, k, e, ey, l⟩ | ⟨kvs, k, b, e, ey, eb, l⟩
  · subst ey
    obtain ⟨z, hd, vs, rel, dd⟩ := dk_rd I.hok e
    obtain ⟨w', hw, rw'⟩ := RelO.some_of (v := v) (o := valueAt vs k) (by rw [l]; exact rel.val k)
    exact wpAny_getItem_of (kV_is ry) dd.mapOf hw (h w' _ (I.tok _) rw')
  · subst ey
    cases (show u = Value.ref b from ry)
    obtain ⟨z, hd, xs, rel, dd⟩ := dt_rd I.hok e
    obtain ⟨w', hw, rw'⟩ := RelO.some_of (v := v) (o := (atKey xs k).map (·.2)) (by rw [l]; exact rel.val k)
    obtain ⟨p, hp, hp2⟩ := Option.map_eq_some_iff.mp hw
    refine wpAny_getItem_heap (tupleKind_room_in1 hu) (key_of I.hok eb) dd hp ?_
    rw [hp2]
    exact h w' _ (I.tok _) rw'
/-- a dict's object is replaced -/
theorem d_write {h' : Heap} {t' : Nat} {ob : HO} (I : Inv X pins σ H s) (mu : Mut (H a)) (hs : Heap.SameBut a s.heap h') (he : ∃ q, h'.get? a = some q) (new : ObjOk X.prog X.w (upd H a ob) h' a ob) :
    Inv X pins σ (upd H a ob) { s with heap := h', toks := t' } :=
  I.write (x := a) (e := a) mu (.inl rfl) (fun b q hb z => (hs.2 b hb).trans z) he new
theorem dk_new {P : Program} {w : World} {H' : Hp} {h' : Heap} {kvs : List (Key × V)} {vs : List (Key × Value)} (z : kvs.length ≤ sizeLine) (hd : (a == sysModules) = false) (rel : KV kvs vs) (dd : h'.DictOf (mixKind P w) a vs) :
    ObjOk P w H' h' a (.dK kvs) := ⟨z, hd, vs, rel, dd⟩
/-- d[y] = v -/
theorem d_setItem {H' : Hp} {Q : Unit → Shared → Prop} (hu : A.units + 1 < cLine) (I : Inv X pins σ H s) (g : DPut H a y v H') (ry : RelV y u) (rv : RelV v r) (h : ∀ s', Inv X pins σ H' s' → Q () s') :
    wpAny (model X.prog X.w) A (setItem (.ref a) u r) Q E s := by
  rcases g with ⟨kvs, k, e, ey, l, eH⟩ | ⟨kvs, k, b, e, ey, eb, l, eH⟩
  · subst ey eH
    obtain ⟨z, hd, vs, rel, dd⟩ := dk_of I.hok e
    have hz : vs.length ≤ sizeLine := by rw [← rel.length]; exact z
    have hl : (putK kvs k v).length ≤ sizeLine := by have := length_putK kvs k v; omega
    refine wpAny_setItem_pairs (hsz := hz) (kV_is ry) dd fun h' dd' hs => h _ ?_
    have he : ∃ q, h'.get? a = some q := let ⟨q, _, _, hq, _⟩ := dd'; ⟨q, hq⟩
    exact d_write I (by rw [e]; exact True.intro) hs he (dk_new hl hd (rel.put k rv) dd')
  · subst ey eH
    cases (show u = Value.ref b from ry)
    obtain ⟨z, hd, xs, rel, dd⟩ := dt_of I.hok e
    have hz : xs.length ≤ sizeLine := by rw [← Paired.length rel]; exact z
    have hl : (putK kvs k v).length ≤ sizeLine := by have := length_putK kvs k v; omega
    refine wpAny_setItem_heap (hsz := hz) (tupleKind_room_in1 hu) (key_of I.hok eb) dd fun h' dd' hs => h _ ?_
    obtain ⟨q, es, ep, hq, h2, h3, h4, _, h5⟩ := dd'
    refine d_write I (by rw [e]; exact True.intro) hs ⟨q, hq⟩ ⟨hl, hd, _, (rel.put k eb rv).keeps fun c ys ec => ?_, q, es, ep, hq, h2, h3, h4, h5⟩
    rw [upd_ne (ne_of ec e (fun z => nomatch z))]
    exact ec
end

section
variable {X : Cx} {pins : List (Addr × Obj)} {σ : St} {H : Hp} {s : Shared} {a : Addr} {kvs : List (Key × V)} {k : Key} {u : Value} {A : Around} {E : Value → Shared → Prop}
end


/-! ### readings and rules -/
/-- the element of a subscription, not a slice -/
def NoSl (i : Expr) : Prop := ∀ ov iv, subscripted i false ov iv = operate [ov, iv] (getItem ov iv)
theorem subD_of {prog : Program} {w : World} {A : Around} {E : Value → Shared → Prop} {s : Shared} {env : Env} {value slice : Expr} {pos : Pos} {T id : String} {Q : Value → Shared → Prop}
    (hl : typeLookup (.type T) "__getitem__" = pure (some (.builtin id))) (hs : NoSl slice)
    (h : wpAny (model prog w) A (eval value env) (fun o s₁ => wpAny (model prog w) A (eval slice env) (fun i s₂ => s₂.TypeIs o T ∧ wpAny (model prog w) A (getItem o i) Q E s₂) E s₁) E s) :
    wpAny (model prog w) A (eval (.Subscript value slice pos) env) Q E s := by
  refine Subscript_ (wpAny_mono h (fun o s₁ h₁ => wpAny_mono h₁ (fun i s₂ h₂ => ?_) fun _ _ x => x) fun _ _ x => x)
  obtain ⟨hT, h₂⟩ := h₂
  unfold subscriptTail
  refine wpAny_bind ?_
  rw [getitemInPython_of_ne hT.not_modules]
  refine wpAny_bind (wpAny_specialOf hT hl ?_)
  have fin : wpAny (model prog w) A (subscripted slice false o i) (fun r s₃ => wpAny (model prog w) A (letTemporaryGo value o r >>= fun _ => pure r) Q E s₃) E s₂ := by
    rw [hs o i]
    exact wpAny_operating (wpAny_mono h₂ (fun r s₃ h₃ => wpAny_bind (wpAny_letTemporaryGo (wpAny_pure h₃))) fun _ _ x => x)
  first
    | exact wpAny_pure (wpAny_bind fin)
    | exact wpAny_bind (wpAny_pure (wpAny_bind fin))
    | exact wpAny_bind fin

theorem dict_typeIs {X : Cx} {pins : List (Addr × Obj)} {σ : St} {H : Hp} {s : Shared} {a : Addr} {y : V} {o : Option V} (I : Inv X pins σ H s) (g : DGet H a y o) : s.TypeIs (.ref a) "dict" := by
  rcases g with ⟨kvs, k, e, _, _⟩ | ⟨kvs, k, b, e, _, _, _⟩
  · obtain ⟨_, _, vs, _, dd⟩ := dk_rd I.hok e
    exact dd.typeIs
  · obtain ⟨_, _, xs, _, dd⟩ := dt_rd I.hok e
    exact dd.typeIs
/-- d[y] -/
def tDGet (td ty : TE) : TE := fun σ H Q => td σ H fun x H1 => ty σ H1 fun y H2 => ∃ a v, x = .ref a ∧ DGet H2 a y (some v) ∧ Q v H2
/-- y in d, y not in d -/
def tDIn (ty td : TE) : TE := fun σ H Q => ty σ H fun y H1 => td σ H1 fun x H2 => ∃ a o, x = .ref a ∧ DGet H2 a y o ∧ Q (.bl o.isSome) H2
def tDNotIn (ty td : TE) : TE := fun σ H Q => ty σ H fun y H1 => td σ H1 fun x H2 => ∃ a o, x = .ref a ∧ DGet H2 a y o ∧ Q (.bl (!o.isSome)) H2
/-- d[y] = v -/
def sDPut (td ty tv : TE) : TS := fun D σ H => tv σ H fun v H1 => td σ H1 fun x H2 => ty σ H2 fun y H3 => ∃ a H4, x = .ref a ∧ DPut H3 a y v H4 ∧ D.nx σ H4
/-- d[y] op= v -/
def sDAug (td ty tv : TE) (rd : V → V → Hp → VK → Prop) : TS := fun D σ H => td σ H fun x H1 => ty σ H1 fun y H2 => ∃ a v, x = .ref a ∧ DGet H2 a y (some v) ∧
  tv σ H2 fun y2 H3 => rd v y2 H3 fun z H4 => ∃ H5, DPut H4 a y z H5 ∧ D.nx σ H5
/-- del d[y] -/
def sDDel (td ty : TE) : TS := fun D σ H => td σ H fun x H1 => ty σ H1 fun y H2 => ∃ a kvs k, x = .ref a ∧ H2 a = some (.dK kvs) ∧ y = kV k ∧ (valV kvs k).isSome = true ∧ D.nx σ (upd H2 a (.dK (dropK kvs k)))

section
variable {X : Cx} {o i e value : Expr} {pos pos' tpos : Pos} {td ty tv : TE}
theorem pe_dget (hu : X.A.units + 1 < cLine) (ho : PE X o td) (hi : PE X i ty) (hs : NoSl i) : PE X (.Subscript o i pos) (tDGet td ty) := by
  intro pins s σ H Q I h
  refine subD_of PySem.F.slot_dict_getitem.lookup hs (thn (ho pins s σ H _ I h) fun u s1 ⟨x, H1, I1, rx, q1⟩ => thn (hi pins s1 σ H1 _ I1 q1) fun iv s2 ⟨y, H2, I2, ry, a, v, ex, g, q2⟩ => ?_)
  subst ex
  obtain rfl : u = Value.ref a := rx
  exact ⟨dict_typeIs I2 g, d_getItem hu I2 g ry fun w' s3 I3 rw' => ⟨v, H2, I3, rw', q2⟩⟩
theorem ps_dput (hu : X.A.units + 1 < cLine) (ho : PE X o td) (hi : PE X i ty) (hv : PE X value tv) (hs : swapsWith value (some (.Subscript o i pos')) pos.line X.env = pure false) :
    PS X (.Assign [.Subscript o i pos'] value pos) (sDPut td ty tv) := by
  intro pins s σ H D I h
  refine wpAny_Assign_Subscript (thn (hv pins s σ H _ I h) fun r s1 ⟨v, H1, I1, rv, q1⟩ => thn (ho pins s1 σ H1 _ I1 q1) fun u s2 ⟨x, H2, I2, rx, q2⟩ => thn (hi pins s2 σ H2 _ I2 q2) fun iv s3 ⟨y, H3, I3, ry, a, H4, ex, g, q3⟩ => ?_) hs
  subst ex
  obtain rfl : u = Value.ref a := rx
  exact d_setItem hu I3 g ry rv fun s4 I4 => ⟨σ, H4, I4, q3⟩
end


/-! ### displays -/
theorem dk_empty {P : Program} {w : World} {H : Hp} (h : Heap) (hb : sysModules < h.objs.size) : ObjOk P w H (h.push { cls := .type "dict", data := .dict #[] }) h.objs.size (.dK []) :=
  ⟨Nat.zero_le _, beq_eq_false_iff_ne.mpr (Ne.symm (Nat.ne_of_lt hb)), [], .nil, Heap.DictOf.new h⟩
/-- {}, to be a dict of the kind that is wanted -/
def tDNewK : TE := fun _ H Q => ∀ p, H p = none → Q (.ref p) (upd H p (.dK []))
def tDNewT : TE := fun _ H Q => ∀ p, H p = none → Q (.ref p) (upd H p (.dT []))
section
variable {X : Cx} {pos : Pos}
end

/-- the pairs of a display, from the left -/
def tPairs : List (TE × TE) → St → Hp → (List (V × V) → Hp → Prop) → Prop
  | [], _, H, Q => Q [] H
  | (tk, tv) :: r, σ, H, Q => tk σ H fun x H1 => tv σ H1 fun y H2 => tPairs r σ H2 fun ps H3 => Q ((x, y) :: ps) H3
abbrev VV : List (V × V) → List (Value × Value) → Prop := Paired fun p q => RelV p.1 q.1 ∧ RelV p.2 q.2
def PPs (X : Cx) (pos : Pos) (keys : List (Option Expr)) (values : List Expr) (trs : List (TE × TE)) : Prop :=
  ∀ (pins : List (Addr × Obj)) (s : Shared) (σ : St) (H : Hp) (Q : List (V × V) → Hp → Prop), Inv X pins σ H s → tPairs trs σ H Q →
    wpAny (model X.prog X.w) X.A (evalPairs (pairTrees keys values X.env pos)) (fun vs s' => ∃ ps H', Inv X pins σ H' s' ∧ VV ps vs ∧ Q ps H') X.xe s
theorem pps_nil {X : Cx} {pos : Pos} : PPs X pos [] [] [] := fun pins s σ H Q I h => pairTrees_nil_walk ⟨[], H, I, .nil, h⟩
theorem pps_cons {X : Cx} {pos : Pos} {k v : Expr} {ks : List (Option Expr)} {vs : List Expr} {tk tv : TE} {trs : List (TE × TE)} (hk : PE X k tk) (hv : PE X v tv) (hr : PPs X pos ks vs trs) :
    PPs X pos (some k :: ks) (v :: vs) ((tk, tv) :: trs) := fun pins s σ H Q I h =>
  pairTrees_cons_walk (thn (hk pins s σ H _ I h) fun u s1 ⟨x, H1, I1, rx, q1⟩ => thn (hv pins s1 σ H1 _ I1 q1) fun w2 s2 ⟨y, H2, I2, ry, q2⟩ =>
    thn (hr pins s2 σ H2 _ I2 q2) fun ws s3 ⟨ps, H3, I3, rel, q3⟩ => ⟨(x, y) :: ps, H3, I3, .cons ⟨rx, ry⟩ rel, q3⟩)

def mergeK (kvs more : List (Key × V)) : List (Key × V) := more.foldl (fun acc kv => putK acc kv.1 kv.2) kvs
theorem KV.merge : ∀ {more : List (Key × V)} {rs : List (Key × Value)} {kvs : List (Key × V)} {vs : List (Key × Value)}, KV more rs → KV kvs vs → KV (mergeK kvs more) (merged vs rs) := by
  intro more rs kvs vs r
  unfold KV at r
  induction r generalizing kvs vs with
  | nil => intro q; exact q
  | @cons p q ps qs h t ih =>
    intro r0
    have e : KV (putK kvs p.1 p.2) (stored vs q.1 q.2) := by
      have := r0.put p.1 h.2
      rw [← h.1]; exact this
    exact ih e
theorem length_mergeK : ∀ (more kvs : List (Key × V)), (mergeK kvs more).length ≤ kvs.length + more.length
  | [], kvs => by show kvs.length ≤ kvs.length + 0; omega
  | p :: r, kvs => by
    have h1 := length_mergeK r (putK kvs p.1 p.2)
    have h2 := length_putK kvs p.1 p.2
    show (mergeK (putK kvs p.1 p.2) r).length ≤ _
    rw [List.length_cons]; omega
theorem carries_of {P : Program} {w : World} : ∀ {kvs : List (Key × V)} {ws : List (Value × Value)}, VV (kvs.map fun kv => (kV kv.1, kv.2)) ws → ∃ rs, Carries (mixKind P w) ws rs ∧ KV kvs rs
  | [], _, r => by rw [List.map_nil] at r; cases r; exact ⟨[], True.intro, .nil⟩
  | p :: kvs, _, r => by
    rw [List.map_cons] at r
    cases r with
    | @cons a b as bs h t =>
      obtain ⟨rs, c, q⟩ := carries_of (P := P) (w := w) t
      obtain ⟨b1, b2⟩ := b
      exact ⟨(p.1, b2) :: rs, ⟨kV_is h.1, rfl, c⟩, .cons ⟨rfl, h.2⟩ q⟩
/-- {k: v, ..} with keys ints and texts; the new dict stands empty while the pairs are made -/
def tDisp (trs : List (TE × TE)) : TE := fun σ H Q => ∀ p, H p = none → tPairs trs σ (upd H p (.dK [])) fun ps H2 => H2 p = some (.dK []) ∧ ∃ kvs : List (Key × V), ps = kvs.map (fun kv => (kV kv.1, kv.2)) ∧ kvs.length ≤ 15 ∧ Q (.ref p) (upd H2 p (.dK (mergeK [] kvs)))
theorem pe_disp {X : Cx} {pos : Pos} {keys : List (Option Expr)} {values : List Expr} {trs : List (TE × TE)} (h : PPs X pos keys values trs) (hall : keys.all (·.isSome) = true) (hl : keys.length = values.length) (h0 : keys ≠ [])
    (h15 : keys.length ≤ 15) : PE X (.Dict keys values pos) (tDisp trs) := by
  intro pins s σ H Q I q
  have hn := I.hok.fresh (Nat.le_refl s.heap.objs.size)
  have I1 := I.laid (a := s.heap.objs.size) (o := .dK []) (h' := s.heap.push { cls := .type "dict", data := .dict #[] }) (t' := s.toks) (fun _ _ q => Heap.get?_push_of_some _ q) (Nat.le_refl _) (dk_empty s.heap I.big)
  refine wpAny_Dict_walk (knd := mixKind X.prog X.w) hall hl h0 h15 (thn (h pins _ σ _ _ I1 (q _ hn)) fun ws s2 ⟨ps, H2, I2, rel, e, kvs, ep, lk, q2⟩ => ?_)
  subst ep
  obtain ⟨rs, c, rk⟩ := carries_of (P := X.prog) (w := X.w) rel
  obtain ⟨z, hd, vs0, r0, dd⟩ := dk_of I2.hok e
  cases r0
  refine ⟨rs, c, dd, fun h' dd' hs => ⟨.ref s.heap.objs.size, _, ?_, rfl, q2⟩⟩
  have hz : (mergeK [] kvs).length ≤ sizeLine := by
    have h1 := length_mergeK kvs []
    rw [List.length_nil] at h1
    rw [sizeLine_eq]; omega
  have he : ∃ q, h'.get? s.heap.objs.size = some q := let ⟨q, _, _, hq, _⟩ := dd'; ⟨q, hq⟩
  exact d_write I2 (by rw [e]; exact True.intro) hs he (dk_new hz hd (rk.merge .nil) dd')


/-! ### methods -/
/-- a method call o.m(e) of a built-in, with one argument: what must be seen of the text -/
structure M1 (X : Cx) (o : Expr) (m : Str) (apos : Pos) (e : Expr) (cpos : Pos) : Prop where
  base : attributeBase o m X.env (eval o X.env) = eval o X.env
  few : ((backTo cpos (starEach [e] X.env)).all (fun x => !x.1) && (backToKw cpos (keywordEach [] X.env)).all (fun x => x.1.isSome)
    && decide (([e] : List Expr).length + ([] : List Keyword).length + (if ([] : List Keyword).isEmpty then 0 else 1) < 30)) = true
  line : (apos.endLine == cpos.line) = true
  trees : backTo cpos (starEach [e] X.env) = [(false, eval e X.env)]
structure M2 (X : Cx) (o : Expr) (m : Str) (apos : Pos) (e f : Expr) (cpos : Pos) : Prop where
  base : attributeBase o m X.env (eval o X.env) = eval o X.env
  few : ((backTo cpos (starEach [e, f] X.env)).all (fun x => !x.1) && (backToKw cpos (keywordEach [] X.env)).all (fun x => x.1.isSome)
    && decide (([e, f] : List Expr).length + ([] : List Keyword).length + (if ([] : List Keyword).isEmpty then 0 else 1) < 30)) = true
  line : (apos.endLine == cpos.line) = true
  trees : backTo cpos (starEach [e, f] X.env) = [(false, eval e X.env), (false, eval f X.env)]

/-- a is a dict, whatever its keys -/
def IsD (H : Hp) (a : Addr) : Prop := (∃ kvs, Rd H a (.dK kvs)) ∨ ∃ kvs, Rd H a (.dT kvs)
section
variable {X : Cx} {pins : List (Addr × Obj)} {σ : St} {H : Hp} {s : Shared} {a : Addr} {y d : V} {u r : Value} {o : Option V} {A : Around} {E : Value → Shared → Prop}
end

def tDGet1 (td ty : TE) : TE := fun σ H Q => td σ H fun x H1 => ∃ a, x = .ref a ∧ IsD H1 a ∧ ty σ H1 fun y H2 => ∃ o, DGet H2 a y o ∧ Q (o.getD .non) H2
def tDGet2 (td ty tx : TE) : TE := fun σ H Q => td σ H fun x H1 => ∃ a, x = .ref a ∧ IsD H1 a ∧ ty σ H1 fun y H2 => tx σ H2 fun z H3 => ∃ o, DGet H3 a y o ∧ Q (o.getD z) H3
/-- d.pop(k): there; d.pop(k, x): there or not -/
def tDPop1 (td ty : TE) : TE := fun σ H Q => td σ H fun x H1 => ∃ a, x = .ref a ∧ IsD H1 a ∧ ty σ H1 fun y H2 => ∃ kvs k v, H2 a = some (.dK kvs) ∧ y = kV k ∧ valV kvs k = some v ∧ Q v (upd H2 a (.dK (dropK kvs k)))
def tDPop2 (td ty tx : TE) : TE := fun σ H Q => td σ H fun x H1 => ∃ a, x = .ref a ∧ IsD H1 a ∧ ty σ H1 fun y H2 => tx σ H2 fun z H3 => ∃ kvs k, H3 a = some (.dK kvs) ∧ y = kV k ∧
  (∀ v, valV kvs k = some v → Q v (upd H3 a (.dK (dropK kvs k)))) ∧ (valV kvs k = none → Q z H3)
section
variable {X : Cx} {o e f : Expr} {apos cpos : Pos} {td ty tx : TE}
end

/-! ### dict(d): a copy -/
section
variable {X : Cx} {pins : List (Addr × Obj)} {σ : St} {H : Hp} {s : Shared} {a : Addr} {kvs : List (Key × V)} {A : Around} {E : Value → Shared → Prop}
end


section
variable {X : Cx} {pins : List (Addr × Obj)} {σ : St} {H : Hp} {s : Shared} {a : Addr} {y : V} {u : Value} {A : Around} {E : Value → Shared → Prop}
end
end L2

namespace L2
open PySem PySem.Spec PyProof.Rows

section
variable {prog : Program} {w : World} {A : Around} {E : Value → Shared → Prop}
end

section
variable {X : Cx}
end
end L2

namespace L2
open PySem PySem.Spec PyProof.Rows

section
variable {X : Cx} {pins : List (Addr × Obj)} {σ : St} {H : Hp} {s : Shared} {h' : Heap}
/-- .. and one new object is laid -/
theorem Inv.turnedNew {t' : Nat} {ch : List Addr} {T : Addr} {ob : HO} (I : Inv X pins σ H s) (k : ∀ b o, b ∉ ch → s.heap.get? b = some o → h'.get? b = some o) (hf : ∀ b ∈ ch, FpOk X pins H b) (hT : s.heap.objs.size ≤ T)
    (new : ObjOk X.prog X.w (upd H T ob) h' T ob) : Inv X pins σ (upd H T ob) { s with heap := h', toks := t' } := by
  have hn : H T = none := I.hok.fresh hT
  have nit : ∀ b u, H b = some u → b ∉ ch := fun b u e z => by
    have q := (hf b z).1
    rw [q] at e; cases e
  refine I.step (g' := s.gens) (d' := s.drawn) (ch := ch) (fun b hb => ⟨(hf b hb).2.2.2.1, (hf b hb).2.1, (hf b hb).2.2.2.2.1, (hf b hb).2.2.2.2.2⟩) (fun b o _ _ hc e _ => k b o hc e) (fun b o _ _ hc e _ => ⟨o.slots, k b o hc e⟩)
    (fun b o _ e n => ?_) (fun b o hc e => ⟨o, k b o hc e⟩) (fun b xs e => ?_) (fun b o u e => ?_) (fun b ps e => ⟨#[], ?_⟩) (fun m hm => ?_) (fun b u e => ?_) I.bare
  · rw [upd_ne (Nat.ne_of_lt (Nat.lt_of_lt_of_le (Heap.lt_size e) hT))]; exact n
  · rw [upd_ne (ne_of_none e hn)]; exact e
  · rw [upd_ne (ne_of_none e hn)]; exact e
  · rw [upd_ne (ne_of_none e hn), e]; simp
  · obtain ⟨o, es, ep, ho, r⟩ := hm
    exact ⟨o, es, ep, k _ o (fun z => (hf _ z).2.1 rfl) ho, r⟩
  · by_cases hb : b = T
    · subst hb
      rw [upd_same] at e
      cases e
      exact new
    · rw [upd_ne hb] at e
      refine (I.hok b u e).stay (fun c v hc q => k c v ?_ q) (fun c q => by rw [upd_ne (ne_of_none q hn)]; exact q) fun c xs q => by rw [upd_ne (ne_of_none q hn)]; exact q
      rcases hc with z | z
      · rw [z]; exact nit b u e
      · exact nit c _ z

/-! ### locking a thing while a statement runs -/
end
/-- the statement runs while the thing at d is locked (read, not written); d and what stands there are the reading's choice -/
def tLock (t : TS) : TS := fun D σ H => ∃ d u, H d = some u ∧ Mut (some u) ∧ ∀ od, t ⟨fun σ' H' => H' d = some (.frz od u) ∧ D.nx σ' (upd H' d u), fun v H' => H' d = some (.frz od u) ∧ D.rt v (upd H' d u), fun σ' H' => H' d = some (.frz od u) ∧ D.bk σ' (upd H' d u), fun σ' H' => H' d = some (.frz od u) ∧ D.ct σ' (upd H' d u)⟩ σ (upd H d (.frz od u))
def tLockE (t : TE) : TE := fun σ H Q => ∃ d u, H d = some u ∧ Mut (some u) ∧ ∀ od, t σ (upd H d (.frz od u)) fun v H' => H' d = some (.frz od u) ∧ Q v (upd H' d u)
section
variable {X : Cx}
/-! ### one iterator just laid -/
end

/-! ### range with a step -/
/-- lo, lo + c, .. (n of them) -/
def Itc (lo c : Int) (n : Nat) : It := ⟨fun i _ => i < n, fun i H x H' => H' = H ∧ x = .int (lo + (i : Nat) * c), fun i _ => n ≤ i⟩
/-- range(i, j, c): small bounds, n items -/
def RgC (i j c : Int) (n : Nat) : Prop := c ≠ 0 ∧ c.natAbs < 1073741824 ∧ Builtin.Range.small i j c = true ∧ Builtin.Range.rangeSize i j c = n
def iRng3 (ta : TA) : TI := fun σ H R => ta σ H fun vs H1 => ∃ (i j c : Int) (n : Nat), vs = [.int i, .int j, .int c] ∧ RgC i j c n ∧ R (Itc i c n) H1
section
variable {X : Cx} {tg : Expr}
end
/-! ### reversed(list) -/
/-- the list at a (n items at the start, which the loop leaves there), from its end -/
def Itv (K : PySem.W.Frag) (a : Addr) (n : Nat) : It :=
  ⟨fun i H => i < n ∧ ∃ (xs : List V) (x : V), SqL K H a xs ∧ xs[n - 1 - i]? = some x, fun i H x H' => H' = H ∧ ∀ xs, SqL K H a xs → xs[n - 1 - i]? = some x, fun i _ => n ≤ i⟩
def iRev (K : PySem.W.Frag) (ta : TA) : TI := fun σ H R => ta σ H fun vs H1 => ∃ (a : Addr) (xs : List V), vs = [.ref a] ∧ SqL K H1 a xs ∧ R (Itv K a xs.length) H1
section
variable {X : Cx} {tg : Expr}
end

/-! ### a str -/
def Its (x : Str) : It := ⟨fun i _ => i < x.cps.size, fun i H v H' => H' = H ∧ ∃ c, x.cps[i]? = some c ∧ v = .str ⟨#[c]⟩, fun i _ => x.cps.size ≤ i⟩
def iStr (te : TE) : TI := fun σ H R => te σ H fun v H1 => ∃ x, v = .str x ∧ R (Its x) H1
/-! ### a dict's keys: any dict's entries -/
section
variable {prog : Program} {w : World} {A : Around} {E : Value → Shared → Prop} {s : Shared}
end

/-! ### a locked dict -/
section
variable {X : Cx} {pins : List (Addr × Obj)} {σ : St} {H : Hp} {s : Shared} {d : Addr} {o : Obj}
end

/-- the keys of the locked dict at d, in their order -/
def Itk (d : Addr) (o : Obj) (kvs : List (Key × V)) : It :=
  ⟨fun i H => H d = some (.frz o (.dK kvs)) ∧ i < kvs.length, fun i H x H' => H' = H ∧ ∃ k v, kvs[i]? = some (k, v) ∧ x = kV k, fun i H => H d = some (.frz o (.dK kvs)) ∧ kvs.length ≤ i⟩
/-- .. of tuple keys: the key's own tuple -/
def Itkt (d : Addr) (o : Obj) (kvs : List (List Key × V)) : It :=
  ⟨fun i H => H d = some (.frz o (.dT kvs)) ∧ i < kvs.length, fun i H x H' => H' = H ∧ ∃ (k : List Key) (v : V) (q : Addr), kvs[i]? = some (k, v) ∧ x = .ref q ∧ H q = some (.tup (k.map kV)), fun i H => H d = some (.frz o (.dT kvs)) ∧ kvs.length ≤ i⟩
/-- the values -/
def Itd (d : Addr) (o : Obj) (kvs : List (Key × V)) : It :=
  ⟨fun i H => H d = some (.frz o (.dK kvs)) ∧ i < kvs.length, fun i H x H' => H' = H ∧ ∃ k, kvs[i]? = some (k, x), fun i H => H d = some (.frz o (.dK kvs)) ∧ kvs.length ≤ i⟩
/-- the pairs, each a new tuple -/
def Iti (d : Addr) (o : Obj) (kvs : List (Key × V)) : It :=
  ⟨fun i H => H d = some (.frz o (.dK kvs)) ∧ i < kvs.length, fun i H x H' => ∃ T k v, kvs[i]? = some (k, v) ∧ x = .ref T ∧ H T = none ∧ H' = upd H T (.tup [kV k, v]), fun i H => H d = some (.frz o (.dK kvs)) ∧ kvs.length ≤ i⟩
section
variable {P : Program} {w : World} {K : PySem.W.Frag} {tg : Expr} {d : Addr} {o : Obj} {es : Array DictEntry} {ep : Nat}
end

/-! ### for k in d, d.keys(), d.values(), d.items() -/
/-- the dict is locked (tLock, or by the caller) -/
def iKeys (td : TE) : TI := fun σ H R => td σ H fun x H1 => ∃ d o, x = .ref d ∧ ((∃ kvs, H1 d = some (.frz o (.dK kvs)) ∧ R (Itk d o kvs) H1) ∨ ∃ kvs, H1 d = some (.frz o (.dT kvs)) ∧ R (Itkt d o kvs) H1)
def iVals (td : TE) : TI := fun σ H R => td σ H fun x H1 => ∃ d o kvs, x = .ref d ∧ H1 d = some (.frz o (.dK kvs)) ∧ R (Itd d o kvs) H1
def iItems (td : TE) : TI := fun σ H R => td σ H fun x H1 => ∃ d o kvs, x = .ref d ∧ H1 d = some (.frz o (.dK kvs)) ∧ R (Iti d o kvs) H1
def iKeysM (td : TE) : TI := fun σ H R => td σ H fun x H1 => ∃ d o kvs, x = .ref d ∧ H1 d = some (.frz o (.dK kvs)) ∧ R (Itk d o kvs) H1
section
variable {X : Cx} {tg e : Expr} {td : TE} {apos cpos : Pos}
end

/-! ### enumerate(list) -/
/-- the list at a as it stands at each turn, each item in a new pair -/
def Ite (K : PySem.W.Frag) (a : Addr) : It :=
  ⟨fun i H => ∃ (xs : List V) (x : V), SqL K H a xs ∧ xs[i]? = some x, fun i H v H' => ∃ T x, v = .ref T ∧ H T = none ∧ H' = upd H T (.tup [.int (i : Nat), x]) ∧ ∀ xs, SqL K H a xs → xs[i]? = some x, fun i H => ∃ xs : List V, SqL K H a xs ∧ xs.length ≤ i⟩
theorem turn_enum {P : Program} {w : World} {K : PySem.W.Frag} {elts : List Expr} {kk : Nat} {tpos : Pos} (a e it : Addr) :
    Turn P w K (.Tuple elts kk tpos) (Ite K a) [e, it] e (fun i h => (∃ old, IsEnum h e it ((i : Nat) : Int) old) ∧ h.IsListIter it a i ∧ e ≠ it) where
  mem := by simp
  obj := fun i h st b hb => by
    obtain ⟨⟨old, he⟩, ⟨o, ho, hc, hd⟩, _⟩ := st
    have e' : b = e ∨ b = it := by simpa using hb
    rcases e' with z | z
    · rw [z]; exact ⟨_, he, fun v q => nomatch q⟩
    · rw [z]; exact ⟨o, ho, fun v q => by rw [hd] at q; cases q⟩
  keep := fun i h h' st k => let ⟨⟨old, he⟩, hi, hne⟩ := st; ⟨⟨old, k e (by simp) _ he⟩, hi.at fun o q => k it (by simp) o q, hne⟩
  item := by
    intro X hP hw hK hc i pins s σ H E I hf st hg
    subst hP hw hK
    obtain ⟨⟨old, he⟩, hit, hne⟩ := st
    obtain ⟨xs, x, hq, hx⟩ := hg
    obtain ⟨its, rv, p, hz⟩ := I.list hq
    obtain ⟨u, hu, ru⟩ := rv.get hx
    have hel : e < s.heap.objs.size := Heap.lt_size he
    have hil : it < s.heap.objs.size := by obtain ⟨_, q, _⟩ := hit; exact Heap.lt_size q
    refine wpAny_pyNext_enum_item he hit p.isList (x := u) (by simpa using hu) hne fun h' ho hit' hT hsz hk => ?_
    refine ⟨_, rfl, wpAny_letOwnedTupleGo_enum (s := { s with heap := h', toks := s.toks + 1 }) ho fun h'' he' sb => ?_⟩
    have hT2 : h''.get? s.heap.objs.size = some { cls := .type "tuple", data := .seq #[.int i s.toks, u] } := (sb.2 _ (Nat.ne_of_gt hel)).trans hT
    have new : ObjOk X.prog X.w (upd H s.heap.objs.size (.tup [.int (i : Nat), x])) h'' s.heap.objs.size (.tup [.int (i : Nat), x]) :=
      ⟨by show 2 ≤ sizeLine; decide, [.int i s.toks, u], .cons ⟨_, rfl⟩ (.cons ru .nil), ⟨_, hT2, rfl, _, rfl, rfl⟩⟩
    have I1 : Inv X pins σ (upd H s.heap.objs.size (.tup [.int (i : Nat), x])) { s with heap := h'', toks := s.toks + 1 } :=
      I.turnedNew (ch := [e, it]) (fun b ob hb q => (sb.2 b (fun z => hb (by simp [z]))).trans (hk b ob (fun z => hb (by simp [z])) (fun z => hb (by simp [z])) q)) hf (Nat.le_refl _) new
    refine ⟨.ref s.heap.objs.size, _, I1, rfl, ⟨_, x, rfl, I.hok.fresh (Nat.le_refl _), rfl, fun ys hy => by rw [I.list_inj hy hq]; exact hx⟩, ⟨⟨u, ?_⟩, hit'.at fun o q => (sb.2 it (Ne.symm hne)).trans q, hne⟩, fun b hb => ?_⟩
    · have e1 : ((i + 1 : Nat) : Int) = (i : Int) + 1 := by omega
      rw [e1]; exact he'
    · have hb' : b < s.heap.objs.size := by
        have e' : b = e ∨ b = it := by simpa using hb
        rcases e' with z | z
        · rw [z]; exact hel
        · rw [z]; exact hil
      rw [upd_ne (Nat.ne_of_lt hb')]
      exact (hf b hb).1
  done := by
    intro X hP hw hK hc i pins s σ H E I hf st hg
    subst hP hw hK
    obtain ⟨⟨old, he⟩, hit, hne⟩ := st
    obtain ⟨xs, hq, hx⟩ := hg
    obtain ⟨its, rv, p, hz⟩ := I.list hq
    obtain ⟨f0, f1, f2, f3, f4, f5⟩ := hf it (by simp)
    have hl := rv.length
    exact wpAny_pyNext_enum_end (I.ok.hd hc) he hit p.isList (by simp; omega) fun h' eb => ⟨rfl, I.turned (t' := s.toks) (fun b o hb q => eb b o hb q) f0 f1 f3 f4 f5⟩
  self := fun A i s Q E st h => let ⟨⟨_, he⟩, _⟩ := st; wpAny_pyIter_enum he h
def iEnum (K : PySem.W.Frag) (ta : TA) : TI := fun σ H R => ta σ H fun vs H1 => ∃ a xs, vs = [.ref a] ∧ SqL K H1 a xs ∧ R (Ite K a) H1
theorem pi_enum {X : Cx} {e : Expr} {ta : TA} {p pos tpos : Pos} {elts : List Expr} {kk : Nat} (hg : Gl X "enumerate") (hm : X.mg "enumerate" = none) (ha : PA X [e] ta) (hs : starEach [e] X.env = [(false, eval e X.env)] := by rfl) :
    PI X (.Tuple elts kk tpos) (.Call (.Name "enumerate" p) [e] [] pos) (iEnum X.K ta) := by
  intro pins s σ H R I h
  refine Call_ (ld_blt I hg hm boot_enumerate (PyProof.Rows.callWith_type1 (thn (ha pos pins s σ H _ I h) fun us s1 ⟨vs, H1, I1, r1, q1⟩ => ?_) hs rfl))
  obtain ⟨a, xs, ex, hq, q⟩ := q1
  subst ex
  cases r1 with
  | cons r rr =>
    cases rr
    cases r
    obtain ⟨its, rv, p', hz⟩ := I1.list hq
    refine call_enumerate_list p'.isList fun h' he hit hsz hk => wpAny_pyIter_enum he ?_
    have I2 : Inv X pins σ H1 { s1 with heap := h' } := I1.kept (t' := s1.toks) hk
    refine ⟨s1.heap.objs.size + 1, [s1.heap.objs.size + 1, s1.heap.objs.size], _, _, H1, rfl, I2, turn_enum a (s1.heap.objs.size + 1) s1.heap.objs.size, ⟨⟨.none, he⟩, hit, Nat.succ_ne_self _⟩, fun b hb => ?_, q⟩
    have e' : b = s1.heap.objs.size + 1 ∨ b = s1.heap.objs.size := by simpa using hb
    have hle : s1.heap.objs.size ≤ b := by
      rcases e' with z | z
      · rw [z]; exact Nat.le_add_right _ _
      · rw [z]; exact Nat.le_refl _
    exact I1.fpOk hle (I1.hok.fresh hle)
/-! ### zip(list, list) -/
/-- the lists at a and b as they stand at each turn, the items in new pairs -/
def Itz (K : PySem.W.Frag) (a b : Addr) : It :=
  ⟨fun i H => ∃ (xs ys : List V) (x y : V), SqL K H a xs ∧ SqL K H b ys ∧ xs[i]? = some x ∧ ys[i]? = some y,
    fun i H v H' => ∃ T x y, v = .ref T ∧ H T = none ∧ H' = upd H T (.tup [x, y]) ∧ (∀ xs, SqL K H a xs → xs[i]? = some x) ∧ ∀ ys, SqL K H b ys → ys[i]? = some y,
    fun i H => ∃ xs ys : List V, SqL K H a xs ∧ SqL K H b ys ∧ (xs.length ≤ i ∨ ys.length ≤ i)⟩
def iZip (K : PySem.W.Frag) (ta : TA) : TI := fun σ H R => ta σ H fun vs H1 => ∃ a b xs ys, vs = [.ref a, .ref b] ∧ SqL K H1 a xs ∧ SqL K H1 b ys ∧ R (Itz K a b) H1
end L2

section 
namespace Bits
open PySem PyProof.Rows

end Bits
end 

section 
namespace TL
open PySem PySem.Builtin PySem.Builtin.Str PySem.StrLaws

abbrev tl (x : Str) : List Nat := x.cps.toList
/-! ### the list functions -/
/-- S stands at the head of l -/
def pre (S l : List Nat) : Bool := l.take S.length == S
/-- l cut at each S from the left; k signs are still to be passed over -/
def spl (S : List Nat) : Nat → List Nat → List Nat → List (List Nat)
  | _, acc, [] => [acc]
  | 0, acc, c :: r => if pre S (c :: r) = true then acc :: spl S (S.length - 1) [] r else spl S 0 (acc ++ [c]) r
  | k + 1, acc, _ :: r => spl S k acc r
/-- what stands before the first S, and behind it -/
def par (S : List Nat) : List Nat → List Nat → Option (List Nat × List Nat)
  | _, [] => none
  | acc, c :: r => if pre S (c :: r) = true then some (acc, (c :: r).drop S.length) else par S (acc ++ [c]) r

/-! ### the model's split and partition are these -/
/-! ### computing spl and par -/
/-- joined lists -/
def joinL (S : List Nat) : List (List Nat) → List Nat
  | [] => []
  | [p] => p
  | p :: q :: r => p ++ (S ++ joinL S (q :: r))
/-! ### digits -/
/-- the signs of a number -/
def numL (n : Nat) : List Nat := (Nat.toDigits 10 n).map Char.toNat
/-! ### words: x.split() -/
def wstep (st : List (List Nat) × List Nat) (c : Nat) : List (List Nat) × List Nat :=
  if Unicode.isSpace c = true then (if st.2 = [] then st else (st.1 ++ [st.2], [])) else (st.1, st.2 ++ [c])
def wfin (st : List (List Nat) × List Nat) : List (List Nat) := if st.2 = [] then st.1 else st.1 ++ [st.2]
end TL
end 

namespace L2
open PySem PySem.Spec PyProof.Rows

/-- a new list of texts, tracked -/
def rNewStrs (ys : List Str) : Hp → VK → Prop := fun H Q => ∀ p, H p = none → Q (.ref p) (upd H p (.lst (ys.map V.str)))

section
variable {X : Cx} {pins : List (Addr × Obj)} {σ : St} {H : Hp} {s : Shared} {Q : VK}
end

section
variable {X : Cx}

/-! ### of a text alone -/
/-! ### of a text and a text -/
end

section
variable {X : Cx} {o e : Expr} {to te : TE}
def tM0 (r : V → List V → Hp → VK → Prop) (to : TE) : TE := fun σ H Q => to σ H fun x H1 => (∃ a, x = .str a) ∧ r x [] H1 Q
def tM1 (r : V → List V → Hp → VK → Prop) (to te : TE) : TE := fun σ H Q => to σ H fun x H1 => (∃ a, x = .str a) ∧ te σ H1 fun y H2 => r x [y] H2 Q
end
end L2

namespace L2
open PySem PySem.Spec PyProof.Rows

section
variable {X : Cx}
theorem op_notIn_sign : OpR X (compareOp .NotIn) (fun x y H Q => ∃ (c : Nat) (z : Str), x = .str ⟨#[c]⟩ ∧ y = .str z ∧ Q (.bl (!decide (c ∈ z.cps.toList))) H) := by
  intro pins s σ H x y v u Q I rx ry h
  obtain ⟨c, z, rfl, rfl, q⟩ := h
  obtain ⟨t, rfl⟩ := rx
  obtain ⟨t', rfl⟩ := ry
  exact PyProof.Rows.notIn_str (fin_bl I q (congrArg Bool.not (PySem.StrLaws.found_one z c).symm))
end

/-! ### slices of a text -/
theorem IsPart.raw {v : Value} {o : Option Int} (p : IsPart v o) : ∃ l : Option (Int × Tok), v = partValue l ∧ l.map (·.1) = o := by
  cases p with
  | none => exact ⟨none, rfl, rfl⟩
  | int i t => exact ⟨some (i, t), rfl, rfl⟩

/-- a part, clipped, as the text's slice reckons it -/
def clipS (n d : Nat) : Option Int → Int
  | none => (d : Int)
  | some i => max 0 (min (if i < 0 then i + (n : Int) else i) (n : Int))
theorem clipS_eq (n d : Nat) (o : Option Int) : clipS n d o = ((HT.sIx n d o : Nat) : Int) := by
  cases o with
  | none => rfl
  | some v =>
    show max (0 : Int) (min (if v < 0 then v + (n : Int) else v) (n : Int)) = (((if v < 0 then (v + (n : Int)).toNat else min v.toNat n) : Nat) : Int)
    by_cases hv : v < 0
    · simp only [if_pos hv]
      omega
    · simp only [if_neg hv]
      omega
theorem sidx_clip (a b : Option Int) (n : Nat) : Builtin.Str.strSliceIndices a b 1 n = sliceRange (clipS n 0 a) (clipS n n b) 1 := by
  have h1 : ((1 : Int) > 0) = True := by simp
  cases a <;> cases b <;> first
    | rfl
    | (simp only [Builtin.Str.strSliceIndices, clipS, h1, if_true]; rfl)
    | simp [Builtin.Str.strSliceIndices, clipS]
theorem sidx (a b : Option Int) (n : Nat) : Builtin.Str.strSliceIndices a b 1 n = (List.range (HT.sIx n n b - HT.sIx n 0 a)).map (fun k => HT.sIx n 0 a + k) := by
  rw [sidx_clip, clipS_eq, clipS_eq]
  generalize HT.sIx n 0 a = p
  generalize HT.sIx n n b = q
  simp only [sliceRange, show ((1 : Int) > 0) = True from by simp, if_true]
  by_cases hlt : (p : Int) < q
  · have e3 : (((q : Int) - p + 1 - 1) / 1).toNat = q - p := by first | omega | (simp; done) | (simp; omega)
    simp only [hlt, if_true, e3]
    refine List.map_congr_left fun k _ => ?_
    omega
  · have : q - p = 0 := by omega
    simp [hlt, this]

/-- z[lo:hi] -/
def cutS (z : Str) (lo hi : Option Int) : Str :=
  ⟨((z.cps.toList.drop (HT.sIx z.length 0 lo)).take (HT.sIx z.length z.length hi - HT.sIx z.length 0 lo)).toArray⟩
theorem sliceText_cut (z : Str) (lo hi : Option Int) : PySem.StrLaws.sliceText z lo hi = cutS z lo hi := by
  have h1 : HT.sIx z.length 0 lo ≤ z.length := HT.sIx_le _ _ (Nat.zero_le _) _
  have h2 : HT.sIx z.length z.length hi ≤ z.length := HT.sIx_le _ _ (Nat.le_refl _) _
  have hp : HT.sIx z.length 0 lo ≤ max (HT.sIx z.length 0 lo) (HT.sIx z.length z.length hi) := Nat.le_max_left _ _
  have hq : max (HT.sIx z.length 0 lo) (HT.sIx z.length z.length hi) ≤ z.length := Nat.max_le.mpr ⟨h1, h2⟩
  have hd : max (HT.sIx z.length 0 lo) (HT.sIx z.length z.length hi) - HT.sIx z.length 0 lo = HT.sIx z.length z.length hi - HT.sIx z.length 0 lo := by omega
  have e : Builtin.Str.strSliceIndices lo hi 1 z.length =
      Builtin.Str.strSliceIndices (some ((HT.sIx z.length 0 lo : Nat) : Int)) (some ((max (HT.sIx z.length 0 lo) (HT.sIx z.length z.length hi) : Nat) : Int)) 1 z.length := by
    rw [PySem.StrLaws.strSliceIndices_plain hp hq, hd, sidx]
  have e2 : PySem.StrLaws.sliceText z lo hi =
      PySem.StrLaws.sliceText z (some ((HT.sIx z.length 0 lo : Nat) : Int)) (some ((max (HT.sIx z.length 0 lo) (HT.sIx z.length z.length hi) : Nat) : Int)) := by
    unfold PySem.StrLaws.sliceText
    rw [e]
  rw [e2, PySem.StrLaws.sliceText_nat z hp hq, hd]
  rfl
theorem cutS_length (z : Str) (lo hi : Option Int) : (cutS z lo hi).length ≤ z.length := by
  show (((z.cps.toList.drop (HT.sIx z.length 0 lo)).take (HT.sIx z.length z.length hi - HT.sIx z.length 0 lo)).toArray).size ≤ z.cps.size
  rw [List.size_toArray, List.length_take, List.length_drop, Array.length_toList]
  omega
def rSlS : V → Option Int → Option Int → Hp → VK → Prop := fun x lo hi H Q => ∃ z, x = .str z ∧ z.length ≤ sizeLine ∧ Q (.str (cutS z lo hi)) H
theorem sl_str {X : Cx} : SlR X rSlS := by
  intro pins s σ H x v vl vu lo hi sl Q I rx hs pl pu h
  obtain ⟨z, rfl, hz, q⟩ := h
  obtain ⟨t, rfl⟩ := rx
  obtain ⟨os, hos, hcs, hds⟩ := hs
  obtain ⟨l, rfl, rfl⟩ := IsPart.raw pl
  obtain ⟨u, rfl, rfl⟩ := IsPart.raw pu
  refine ⟨"str", _, F.slot_str_getitem.lookup, typeIs_str _ _ _, ?_⟩
  refine wpAny_getItem_str_slice (l := l) (u := u) (st := none) ⟨os, hos, hcs, hds⟩ rfl ?_
  have hl : (PySem.StrLaws.sliceText z (l.map (·.1)) (u.map (·.1))).length ≤ sizeLine := by
    rw [sliceText_cut]
    exact Nat.le_trans (cutS_length z _ _) hz
  rw [← sliceText_cut] at q
  unfold PySem.StrLaws.sliceText at q hl
  show Made.post (if ((1 : Int) == 1 && (Builtin.Str.strSliceIndices (l.map (·.1)) (u.map (·.1)) 1 z.length).length == z.length) = true then Made.val (.str z t)
    else Made.str ⟨((Builtin.Str.strSliceIndices (l.map (·.1)) (u.map (·.1)) 1 z.length).filterMap (z.cps[·]?)).toArray⟩) (EP X pins σ Q) s
  by_cases c : ((1 : Int) == 1 && (Builtin.Str.strSliceIndices (l.map (·.1)) (u.map (·.1)) 1 z.length).length == z.length) = true
  · rw [if_pos c] at q ⊢
    exact ⟨.str z, H, I, ⟨t, rfl⟩, q⟩
  · rw [if_neg c] at q hl ⊢
    exact ⟨hl, .str _, H, I.tok _, ⟨_, rfl⟩, q⟩
end L2

namespace Att
open PySem PySem.W PySem.Calls PyProof.Rows

/-! ### the script -/
theorem ints_of_wellAll {P : Params} {h : Heap} : ∀ (ns : List Int) (vs : List Value), WellAll P h vs (ns.map WData.int) → IntsAre vs ns := by
  intro ns
  induction ns with
  | nil =>
    intro vs w
    rw [List.map_nil] at w
    cases w
    exact .nil
  | cons n ns ih =>
    intro vs w
    rw [List.map_cons] at w
    cases w with
    | cons a b =>
      cases a
      exact .cons _ _ (ih _ b)

theorem script_of {l : OpenLaw} {n : Nat} (hn : l.most = some n) {P : Params} {h : Heap} {args : List WData} {vals : List Value}
    (hpre : l.row.toRowW.claim.pre args = true) (hwl : WellAll P h vals args) :
    ∃ a vs ns, vals = [Value.ref a] ∧ args = [WData.list (ns.map WData.int)] ∧ h.get? a = some { cls := .type "list", data := .seq vs.toArray } ∧ IntsAre vs ns ∧ ns.length ≤ n := by
  have hsh : WShape.hasAll [] args [.list .int] = true := (pre_splitW hpre).1
  have hc : l.pre.holds [] { args := args } = true := (pre_splitW hpre).2
  obtain ⟨d, r, rfl, h1, h2⟩ := hasAllW_cons hsh
  obtain rfl := hasAllW_nil h2
  obtain ⟨xs, rfl, h3⟩ := hasW_list h1
  obtain ⟨ns, rfl⟩ := items_int h3
  have hlen : ns.length ≤ n := by
    unfold OpenLaw.pre at hc
    have h4 : (WTm.not (.lt (.lit (.int (n : Int))) (.len (.arg 0)))).holds [] { args := [.list (ns.map .int)] } = true := by
      have h4 := (holds_andW hc).1
      rw [hn] at h4
      exact h4
    have h5 := condW_of h4 (w_not (w_lt w_lit (w_len_list (w_arg rfl))))
    rw [List.length_map] at h5
    refine Nat.le_of_not_lt fun q => ?_
    have q' : (n : Int) < ((ns.length : Nat) : Int) := by omega
    first
      | (rw [decide_eq_true q'] at h5; exact absurd h5 (by decide))
      | (simp at h5; omega)
  cases hwl with
  | cons w1 w2 =>
    cases w2
    cases w1 with
    | list ho hall => exact ⟨_, _, ns, rfl, rfl, ho, ints_of_wellAll ns _ hall, hlen⟩

theorem post_true (l : OpenLaw) (args : List WData) : l.row.toRowW.claim.post args (.bool true) args = true :=
  postW_of (r := l.row.toRowW) (X := (true == true))
    (show WShape.has [] (.bool true) .bool = true by first | rfl | decide | simp [WShape.has, WShape.arms, WShape.armsAll])
    (show (WTm.eq .res (.lit (.bool true))).value [] { args := args, res := some (.bool true), after := args } = some (.bool (true == true)) from w_eq_bool (w_res rfl) w_lit) rfl

/-! ### the attachment: holds_open's last premise (the goal 'hc' behind k_head) from a wpAny of the law's body -/
/-- the same from a codeAny of the CALL (for a layer whose function contracts speak of calls) -/
theorem attach_call {l : OpenLaw} {n : Nat} {q : Program} {loose : List Str} {XP : (Str → Option Value) → Heap → Prop} {YP : World → Heap → Prop} {d : DefRec}
    (hn : l.most = some n) (hdf : d.params.defaults = [])
    (call : ∀ (w : World) (s₀ s₁ : Shared) (mg mb : Str → Option Value) (fa : Addr) (o : Obj) (pm cd doc : Value) (a : Addr) (vs : List Value) (ns : List Int),
      Ground q loose [] XP w s₀ mg mb s₁.heap → YP w s₁.heap →
      s₁.heap.get? fa = some o → o.data = .func (docDef d.name d.params d.body d.scope pm cd doc) → s₁.heap.CodeRec cd d.name → mg d.name = some (.ref fa) →
      s₁.heap.get? a = some { cls := .type "list", data := .seq vs.toArray } → IntsAre vs ns → ns.length ≤ n → s₁.gens = #[] →
      codeAny (model l.prog w) callerA (.call (.ref fa) ⟨[.ref a], []⟩) (fun r s' => r = .ok (.ret (.bool true)) ∧ OldK s₁.heap s'.heap ∧ s'.os = s₁.os ∧ AllBare s'.gens) s₁) :
    WalkO q loose XP YP l.row.toRowW d [] (fun f vs => PySem.call f vs) := by
  intro w s₀ s₁ mg mb G Y fa o pm cd doc dV kV ho hd hcd hD hmg hg args vals as hpre hlay hrd hwl hlo
  obtain rfl : dV = .none := Dflts.none hD hdf
  obtain rfl : kV = .none := Dflts.noKw hD
  obtain ⟨a, vs, ns, rfl, rfl, hobj, hints, hlen⟩ := script_of hn hpre hwl
  refine enter_call (codeAny_mono (call w s₀ s₁ mg mb fa o pm cd doc a vs ns G Y ho (fd_plain hd) hcd hmg hobj hints hlen hg) fun r s' hq => ?_)
  obtain ⟨rfl, h2, h3, h4⟩ := hq
  exact ⟨.inl ⟨.bool true, .bool true, [], rfl, fun _ => rfl, .bool true, post_true l _, fun _ => ⟨List.Pairwise.nil, fun _ hm => (nomatch hm)⟩⟩, h2, h3, h4⟩

/-! ### rules over ANY heap (no ledger) from facts about the written part K: the library's own take a ledger (News) for what they write -/
section
variable {prog : Program} {w : World} {A : Around} {E : Value → Shared → Prop} {s : Shared} {K : Frag}

/-! the whole heap as the ledger: makes every rule that writes through a ledger a rule over any heap -/
def noObjs (h : Heap) : Heap := { h with objs := #[] }
def ledger (h : Heap) (L d : Addr) : List (Addr × Obj) := (List.range h.objs.size).filterMap fun a => if a = L ∨ a = d then none else (h.get? a).map fun o => (a, o)
end
end Att

namespace L2
open PySem PySem.Spec PyProof.Rows

theorem vals_ints : ∀ {vs : List Value} {ns : List Int}, IntsAre vs ns → Vals (ns.map V.int) vs
  | _, _, .nil => .nil
  | _, _, .cons n t h => .cons ⟨t, rfl⟩ (vals_ints h)

/-- nothing is tracked but the script, known to the object (or it is an object of the module) -/
def Only (H : Hp) : Prop := ∀ b, H b = none ∨ ∃ o xs, H b = some (.frz o (.lst xs))

/-- THE HEAD: the law's promise, at the heap behind the top. F, the promise of the law's def, may use that base is part of the heap (so K.In base, base.Ns mainGlobals mg stand in Mod) -/
theorem law_call {P : Program} {w : World} {K : PySem.W.Frag} {mg mb : Str → Option Value} {CX : CXT} {k : Nat} {fa a : Addr} {fd : FuncData} {x : Str} {sp : Sp} {s₁ : Shared} {vs : List Value} {ns : List Int}
    (KX : K.In s₁.heap) (hns : s₁.heap.Ns mainGlobals mg) (hb : s₁.heap.Ns builtinsNs mb) (hbb : ∀ x : Str, x ≠ "__name__" → mb x = bootBuiltins x) (hlim : s₁.heap.NoLimit) (hg : s₁.gens = #[])
    (ha : s₁.heap.get? a = some { cls := .type "list", data := .seq vs.toArray }) (hi : IntsAre vs ns) (hl : ns.length ≤ sizeLine) (hr : Room k callerA)
    (F : ∀ base : Heap, K.In base → base.Ns mainGlobals mg → FnOk P w K mg base CX k fa fd [x] sp) (hbind : ∀ (s : Shared) (u : Value), BindsTo s fd ⟨[u], []⟩ [(x, u)])
    (hsp : ∀ H : Hp, Only H → SqL K H a (ns.map V.int) → sp [.ref a] H (fun v _ => v = .bl true) fun _ _ _ => False)
    (hCX : ∀ H e s', CX [] H s₁ (fun _ _ _ => False) e s' → False) :
    codeAny (model P w) callerA (.call (.ref fa) ⟨[.ref a], []⟩) (fun r s' => r = .ok (.ret (.bool true)) ∧ OldK s₁.heap s'.heap ∧ s'.os = s₁.os ∧ AllBare s'.gens) s₁ := by
  have rv := vals_ints hi
  have lenV := hi.length
  -- from an abstract heap in which nothing but the script may be tracked
  have core : ∀ H : Hp, Only H → SqL K H a (ns.map V.int) → HOk P w H s₁.heap → (∀ b, H b ≠ none → b = a) → (H a ≠ none → K.lookup a = none) →
      codeAny (model P w) callerA (.call (.ref fa) ⟨[.ref a], []⟩) (fun r s' => r = .ok (.ret (.bool true)) ∧ OldK s₁.heap s'.heap ∧ s'.os = s₁.os ∧ AllBare s'.gens) s₁ := by
    intro H hO hS hok hA hK
    have base_of : ∀ {b : Addr} {o : Obj}, s₁.heap.get? b = some o → H b = none → (hidT s₁.heap H).get? b = some o := fun e n => hidT_get e n
    have noA : ∀ {b : Addr} {o : Obj} {es : Array DictEntry} {ep : Nat}, s₁.heap.get? b = some o → o.data = .dict es ep → H b = none := fun {b o es ep} e d => by
      cases q : H b with
      | none => rfl
      | some u =>
        have e' : b = a := hA b (by rw [q]; simp)
        subst e'
        rw [ha] at e; cases e
        have d' : Data.seq vs.toArray _ = Data.dict es ep := d
        cases d'
    have nsK : ∀ {b : Addr} {m : Str → Option Value}, s₁.heap.Ns b m → (hidT s₁.heap H).Ns b m := fun {b m} ⟨o, es, ep, e, d, r⟩ => ⟨o, es, ep, base_of e (noA e d), d, r⟩
    have hKb : K.In (hidT s₁.heap H) := fun b o e => base_of (KX b o e) (by
      cases q : H b with
      | none => rfl
      | some u =>
        have e' : b = a := hA b (by rw [q]; simp)
        subst e'
        rw [hK (by rw [q]; simp)] at e; cases e)
    have hM : Mod K mg (hidT s₁.heap H) := ⟨hKb, nsK hns, ⟨mb, nsK hb, hbb⟩, let ⟨mc, h1, h2⟩ := hlim; ⟨mc, nsK h1, h2⟩⟩
    have e0 : Env0 P w K mg (hidT s₁.heap H) callerA [] s₁ H := ⟨rfl, hM, fun b o e => of_hidT e, Nat.le_of_eq (hidT_size _ _), trivial, fun b hb => absurd (show b ∈ ([] : List Addr) from hb) (by simp), hok, .of_eq hg⟩
    refine codeAny_mono ((F _ hKb (nsK hns)).run callerA [] s₁ H ⟨[.ref a], []⟩ [.ref a] [.ref a] _ _ hr e0 (hbind s₁ (.ref a)) (.cons rfl .nil) (hsp H hO hS)) fun r s' h => ?_
    cases r with
    | error e => exact (hCX H e s' h).elim
    | ok fl =>
      cases fl with
      | next => exact False.elim h
      | brk => exact False.elim h
      | cont => exact False.elim h
      | ret u =>
        obtain ⟨v, H', os, bare, un, hok', r', q⟩ := h
        have q' : v = .bl true := q
        subst q'
        obtain rfl : u = Value.bool true := r'
        refine ⟨rfl, OldK.of_keep fun b o e => ?_, os, bare⟩
        cases q : H b with
        | none => exact un.keep b o e q (by intro z; exact absurd (show b ∈ ([] : List Addr) from z) (by simp)) (by simp)
        | some u =>
          rcases hO b with z | ⟨ob, xs, z⟩
          · rw [q] at z; cases z
          · have z2 := un.frzs b ob _ z
            obtain ⟨e1, _⟩ := hok b _ z
            obtain ⟨e2, _⟩ := hok' b _ z2
            rw [e] at e1; cases e1
            exact e2
  cases hk : K.lookup a with
  | some o =>
    -- the script is one of the module's own objects
    have e := KX a o hk
    rw [ha] at e
    cases e
    refine core (fun _ => none) (fun _ => .inl rfl) (.inr ⟨_, vs.toArray, _, hk, rfl, rfl, rfl, by rw [List.size_toArray, lenV]; exact hl, by simpa using rv⟩) (fun b u z => by have z' : (none : Option HO) = some u := z; cases z') (fun b z => absurd rfl z) fun z => absurd rfl z
  | none =>
    refine core (fun b => if b = a then some (.frz { cls := .type "list", data := .seq vs.toArray } (.lst (ns.map V.int))) else none) (fun b => ?_) (.inl (.inr ⟨{ cls := .type "list", data := .seq vs.toArray }, if_pos rfl⟩)) (fun b u z => ?_) (fun b z => ?_) fun _ => hk
    · by_cases hb : b = a
      · exact .inr ⟨_, _, if_pos hb⟩
      · exact .inl (if_neg hb)
    · by_cases hb : b = a
      · have z' := (if_pos hb).symm.trans z
        cases z'
        subst hb
        exact ⟨ha, by rw [List.length_map]; exact hl, vs, _, rv, ha⟩
      · have z' := (if_neg hb).symm.trans z
        cases z'
    · by_cases hb : b = a
      · exact hb
      · exact absurd (if_neg hb) z
end L2

namespace L2
open PySem PySem.Spec PyProof.Rows

abbrev KOf {K : PySem.W.Frag} {h : Heap} (_ : K.In h) : PySem.W.Frag := K

/-- the goal that k_head leaves (case hc), from the law's promise. F gives the function object fd (K's own) once, then the promise over every base -/
theorem walk_of {l : PySem.W.OpenLaw} {n k : Nat} {q : Program} {loose : List Str} {XP : (Str → Option Value) → Heap → Prop} {YP : World → Heap → Prop} {d : DefRec} {K : Params → PySem.W.Frag} {CX : World → CXT} {sp : World → Sp} {x : Str}
    (hn : l.most = some n) (hn2 : n ≤ sizeLine) (hdf : d.params.defaults = []) (hr : Room k callerA)
    (hY : ∀ (w : World) (h : Heap), YP w h → (K w.params).In h)
    (F : ∀ (w : World) (mg : Str → Option Value) (fa : Addr) (h : Heap), (K w.params).In h → h.Ns mainGlobals mg → mg d.name = some (.ref fa) →
      ∃ fd : FuncData, (∀ (s : Shared) (u : Value), BindsTo s fd ⟨[u], []⟩ [(x, u)]) ∧
        ∀ base : Heap, (K w.params).In base → base.Ns mainGlobals mg → FnOk l.prog w (K w.params) mg base (CX w) k fa fd [x] (sp w))
    (hsp : ∀ (w : World) (H : Hp) (a : Addr) (ns : List Int), ns.length ≤ n → Only H → SqL (K w.params) H a (ns.map V.int) → sp w [.ref a] H (fun v _ => v = .bl true) fun _ _ _ => False)
    (hCX : ∀ (w : World) (H : Hp) (s : Shared) (e : Value) (s' : Shared), CX w [] H s (fun _ _ _ => False) e s' → False) :
    PySem.W.WalkO q loose XP YP l.row.toRowW d [] (fun f vs => PySem.call f vs) := by
  refine Att.attach_call hn hdf fun w s₀ s₁ mg mb fa o pm cd doc a vs ns G Y ho hd hcd hmg hobj hints hlen hg => ?_
  have KX := hY w _ Y
  obtain ⟨fd, hb, hF⟩ := F w mg fa _ KX G.T.g hmg
  exact law_call KX G.T.g G.T.b G.T.builtins G.T.nolimit hg hobj hints (Nat.le_trans hlen hn2) hr hF hb (fun H hO hS => hsp w H a ns hlen hO hS) fun H e s' => hCX w H s₁ e s'
end L2

/- THE LAST THEOREM (shape; LID, My.* are yours):
   My.Adr: a structure of the addresses that your layer names (classes, functions); My.Txt K t: a structure (Prop) of the equations over K;
   My.txt_mk : {K} {implicit addresses ..} (e1 : nsIn K mainGlobals "law" = some (some (.ref f))) (e2 : K.lookup f = some ⟨oc, od, .func (fnOf "law" "law" params body scope dV kV doc pm an cdv ct), sl⟩) (e3 : codeIn K cdv "law" = true) .. : ∃ t, My.Txt K t

(the tactic k_is has no namespace: write k_is) -/

/-! SHORT WORDS over the layer: a def of the text, its body, what a loop and a test want. -/
namespace L2
open PySem PySem.Spec PyProof.Rows

/-! ### the text by places -/
/-- the j-th statement of a class's body -/
def inClass (s : Stmt) (j : Nat) : Stmt := match s with
  | .ClassDef _ _ _ body _ _ _ _ _ _ _ => body.getD j (.Pass ⟨0, 0, 0, 0⟩)
  | _ => .Pass ⟨0, 0, 0, 0⟩
def defArgs (s : Stmt) : Arguments := match s with
  | .FunctionDef _ a _ _ _ _ _ _ _ _ => a
  | _ => { posonlyargs := [], args := [], vararg := none, kwonlyargs := [], kw_defaults := [], kwarg := none, defaults := [] }
def defBody (s : Stmt) : List Stmt := match s with
  | .FunctionDef _ _ b _ _ _ _ _ _ _ => b
  | _ => []
def defScope (s : Stmt) : Scope := match s with
  | .FunctionDef _ _ _ _ _ _ sc _ _ _ => sc
  | _ => { kind := .function, names := [], isGenerator := false, isCoroutine := false }

/-! ### no exception leaves a def -/
abbrev CX0 : CXT := fun _ _ _ _ _ _ => False
abbrev E0 : XK := fun _ _ _ => False
theorem pass0 {X : Cx} : Passes CX0 X E0 := fun _ _ _ _ _ _ _ h => h.elim

/-! ### a def (or method) of the text as it stands behind the top -/
structure Fun (K : PySem.W.Frag) (x qual : Str) (st : Stmt) (f : Addr) (fd : FuncData) : Prop where
  ex : ∃ (oc : Value) (od : Option Addr) (kV doc pm : Value) (an : Option Addr) (cdv ct : Value) (osl : Array (Option Value)),
    fd = PySem.W.fnOf x qual (defArgs st) (defBody st) (defScope st) .none kV doc pm an cdv ct ∧ K.lookup f = some ⟨oc, od, .func fd, osl⟩ ∧ PySem.W.codeIn K cdv qual = true
  kp : PySem.W.keepIn K (.ref f) = true
section
variable {P : Program} {w : World} {K : PySem.W.Frag} {mg : Str → Option Value} {base : Heap}
/-- THE RULE for a def: its body as a term of rules, and the reading of that term -/
theorem Fun.ok {x qual : Str} {st : Stmt} {f : Addr} {fd : FuncData} {N ps : List Str} {k : Nat} {sp : Sp} (F : Fun K x qual st f fd) (S : FnScope N ps (defScope st)) (len : ∀ vs H Q E, sp vs H Q E → vs.length = ps.length)
    (hbody : ∀ (cdv : Value) (A : Around) (outer : List Env) (s : Shared) (H : Hp) (vs : List V) (Q : VK) (E : XK), Room k (A.deeper (envOfC qual (defScope st) s.heap.objs.size f cdv)) → sp vs H Q E →
      ∃ t, PSs (cxOf CX0 P w K mg base N qual (defScope st) f cdv A outer s H E).nox (defBody st) t ∧ t { nx := fun _ H' => Q .non H', rt := Q } (start N vs) H) : FnOk P w K mg base CX0 (k + 1) f fd ps sp := by
  obtain ⟨oc, od, kV, doc, pm, an, cdv, ct, osl, rfl, lk, hcd⟩ := F.ex
  refine fn_of lk hcd S len fun A outer s H vs Q E hr hsp => ?_
  obtain ⟨t, h, q⟩ := hbody cdv A outer s H vs Q E hr hsp
  exact ⟨t, h.nox, q⟩
/-- how its arguments bind (no defaults): h is «fun _ _ _ _ _ _ us hl => match us, hl with | [_, _], _ => rfl», one _ a parameter -/
theorem Fun.binds {x qual : Str} {st : Stmt} {f : Addr} {fd : FuncData} {ps : List Str} (F : Fun K x qual st f fd)
    (h : ∀ (kV doc pm : Value) (an : Option Addr) (cdv ct : Value) (us : List Value), us.length = ps.length → bindArgs (PySem.W.fnOf x qual (defArgs st) (defBody st) (defScope st) .none kV doc pm an cdv ct) ⟨us, []⟩ = pure (ps.zip us)) : Binds K fd ps [] := by
  obtain ⟨oc, od, kV, doc, pm, an, cdv, ct, osl, rfl, lk, hcd⟩ := F.ex
  exact .all (h kV doc pm an cdv ct)
theorem fun_mk {x qual : Str} {st : Stmt} {f : Addr} {oc : Value} {od an : Option Addr} {osl : Array (Option Value)} {kV doc pm cdv ct : Value} (l : K.lookup f = some ⟨oc, od, .func (PySem.W.fnOf x qual (defArgs st) (defBody st) (defScope st) .none kV doc pm an cdv ct), osl⟩)
    (c : PySem.W.codeIn K cdv qual = true) (k : PySem.W.keepIn K (.ref f) = true) : Fun K x qual st f (PySem.W.fnOf x qual (defArgs st) (defBody st) (defScope st) .none kV doc pm an cdv ct) := ⟨⟨oc, od, kV, doc, pm, an, cdv, ct, osl, rfl, l, c⟩, k⟩
end
theorem hu_of {A : Around} {k : Nat} (hr : Room k A) : A.units + 1 < cLine := Nat.lt_of_le_of_lt (Nat.add_le_add_left (by decide : 1 ≤ 64) _) hr.units
/-! ### expressions in short: the name that stands in the i-th slot -/
section
variable {X : Cx}
theorem pv (i : Nat) {x : Str} {pos : Pos} (hN : X.N[i]? = some x := by rfl) (hv : Vis X.env.scope x := by first | exact Or.inl rfl | exact Or.inr (Or.inl rfl) | exact Or.inr (Or.inr rfl)) (hd : (x == ("__debug__" : Str)) = false := by decide)
    (hcd : (x == ("__classdict__" : Str)) = false := by decide) : PE X (.Name x pos) (tVar i) := pe_var hN hv hd hcd
end

/-! ### tests -/
/-! ### heaps -/
/-- all that was tracked is as it was -/
def Same (H H' : Hp) : Prop := ∀ b o, H b = some o → H' b = some o
/-! ### a dict's pairs: keys that differ -/
section
variable {κ : Type} [DecidableEq κ]
end
/-! ### lists -/
end L2

set_option Elab.async false
set_option linter.all false
set_option maxRecDepth 100000
/-! an exception that flies: what it changes of the heap -/
namespace L2
open PySem PySem.Spec PyProof.Rows
/-- of what is no frame and may not change all stays; of the frames the slots change -/
structure Nt (fs : List Addr) (ch : Addr → Prop) (h h' : Heap) : Prop where
  keep : ∀ b o, h.get? b = some o → b ∉ fs → ¬ ch b → h'.get? b = some o
  slot : ∀ b o, h.get? b = some o → b ∈ fs → ∃ sl, h'.get? b = some { o with slots := sl }
  there : ∀ b o, h.get? b = some o → ∃ o', h'.get? b = some o'
  size : h.objs.size ≤ h'.objs.size
theorem Nt.trans {fs : List Addr} {ch : Addr → Prop} {h1 h2 h3 : Heap} (x : Nt fs ch h1 h2) (y : Nt fs ch h2 h3) : Nt fs ch h1 h3 :=
  ⟨fun b o e n c => y.keep b o (x.keep b o e n c) n c, fun b o e n => by
    obtain ⟨sl, e1⟩ := x.slot b o e n
    obtain ⟨sl2, e2⟩ := y.slot b _ e1 n
    exact ⟨sl2, e2⟩, fun b o e => by
    obtain ⟨o1, e1⟩ := x.there b o e
    exact y.there b o1 e1, Nat.le_trans x.size y.size⟩
/-- the exception at e: its class, its dict, its last entry (if it has one), whose flight is fl; ch: what may change -/
def XT (ch : Addr → Prop) (h : Heap) (e : Addr) (cls : Value) (dx : Option Addr) (fl : Value) : Prop :=
  ∃ oe vs, h.get? e = some oe ∧ oe.cls = cls ∧ oe.dict = dx ∧ oe.data = .fields vs ∧ 1 < vs.size ∧ ch e ∧
    ∃ T oT ts, vs[1]? = some (.ref T) ∧ T ≠ e ∧ ch T ∧ h.get? T = some oT ∧ oT.data = .fields ts ∧ ts[3]? = some fl
/-- one that was just made -/
def XN (ch : Addr → Prop) (h : Heap) (e : Addr) (cls : Value) (dx : Option Addr) : Prop :=
  ∃ oe vs, h.get? e = some oe ∧ oe.cls = cls ∧ oe.dict = dx ∧ oe.data = .fields vs ∧ ch e ∧ vs[1]? = some .none
/-- new or in flight -/
def XF (ch : Addr → Prop) (h : Heap) (e : Addr) (cls : Value) (dx : Option Addr) : Prop := XN ch h e cls dx ∨ XT ch h e cls dx .none
section
variable {M : Model} {A : Around} {E : Value → Shared → Prop} {s : Shared} {base : Heap} {env : Env} {outer : List Env} {L e : Addr} {cls : Value} {dx : Option Addr} {ch : Addr → Prop}
theorem fields_notin {h : Heap} {l : List Env} {b : Addr} {o : Obj} {vs : Array Value} (hl : h.FunFrames base l) (ho : h.get? b = some o) (hd : o.data = .fields vs) : b ∉ frs l := fun hm => by
  obtain ⟨_, o', ho', hnf⟩ := hl.mem hm
  rw [ho] at ho'; cases ho'; exact hnf vs hd
theorem entryX {oe : Obj} {vs : Array Value} {head : Value} {hadNext : Bool} {Q : Unit → Shared → Prop}
    (hfr : A.frames = some (env :: outer)) (hl : s.heap.FunFrames base (env :: outer)) (hf : env.frame = some L) (hnew : ∀ a, s.heap.objs.size ≤ a → ch a)
    (he : s.heap.get? e = some oe) (hc : oe.cls = cls) (hx : oe.dict = dx) (hd : oe.data = .fields vs) (hsz : 1 < vs.size) (hce : ch e)
    (h : ∀ h', Nt (frs (env :: outer)) ch s.heap h' → XT ch h' e cls dx (rawInt L) → h'.FunFrames base (env :: outer) → Q () { s with heap := h' }) :
    wpAny M A (do let a ← frameOf env; let pl ← entryPlaceOf L hadNext; let b ← EntryCells.newEntry head a .none (rawInt L) .none pl; setField (.ref e) 1 b) Q E s := by
  have hene : e ∉ frs (env :: outer) := fields_notin hl he hd
  refine wpAny_bind (wpAny_frameOf_fun hfr hl hf fun h₁ hs₁ => ?_)
  refine wpAny_bind (wpAny_entryPlaceOf fun pl hpl => ?_)
  unfold EntryCells.newEntry newFields
  refine wpAny_bind (wpAny_newObj_type ?_ (hpl.sizeOk5 _ _ _ _ _))
  have he₁ : h₁.get? e = some oe := (hs₁.2.1 e hene).trans he
  have he₂ := Heap.get?_push_of_some (h := h₁) { cls := .type "traceback", dict := none, data := .fields ([head, .ref L, .none, rawInt L, .none] ++ (if pl.isEmpty then List.replicate 6 Value.none else pl)).toArray } he₁
  refine wpAny_setField he₂ hd hsz ?_
  have hTe : h₁.objs.size ≠ e := Nat.ne_of_gt (Heap.lt_size he₁)
  have hd₃ := Obj.data_mapFields hd (·.setIfInBounds 1 (Value.ref h₁.objs.size))
  have he₃ := Heap.get?_update_self (Obj.mapFields (·.setIfInBounds 1 (Value.ref h₁.objs.size))) he₂ (Obj.isFreed_of_fields hd₃)
  have hT₃ := (Heap.get?_update_other (h₁.push { cls := .type "traceback", dict := none, data := .fields ([head, .ref L, .none, rawInt L, .none] ++ (if pl.isEmpty then List.replicate 6 Value.none else pl)).toArray })
    (Obj.mapFields (·.setIfInBounds 1 (Value.ref h₁.objs.size))) (Ne.symm hTe)).trans (Heap.get?_push_size h₁ rfl)
  have keep : ∀ b o, b ≠ e → h₁.get? b = some o →
      ((h₁.push { cls := .type "traceback", dict := none, data := .fields ([head, .ref L, .none, rawInt L, .none] ++ (if pl.isEmpty then List.replicate 6 Value.none else pl)).toArray }).update e (Obj.mapFields (·.setIfInBounds 1 (Value.ref h₁.objs.size)))).get? b = some o :=
    fun b o hbe hb => by
      rw [Heap.get?_update_other _ _ (Ne.symm hbe)]
      exact Heap.get?_push_of_some _ hb
  have noRecord : ∀ b o, s.heap.get? b = some o → (∀ vs, o.data ≠ .fields vs) → b ≠ e := fun b o hb hnf q => by
    rw [q, he] at hb; injection hb with hb; subst hb; exact hnf vs hd
  refine h _ ⟨fun b o hb hn hcb => ?_, fun b o hb hm => ?_, fun b o hb => ?_, ?_⟩ ?_ (hl.of_keeps fun b o hb hnf => ?_)
  · exact keep b o (fun z => hcb (z ▸ hce)) ((hs₁.2.1 b hn).trans hb)
  · obtain ⟨sl, q⟩ := hs₁.2.2 b o hb
    exact ⟨sl, keep b _ (fun z => hene (z ▸ hm)) q⟩
  · by_cases hbe : b = e
    · subst hbe; exact ⟨_, he₃⟩
    · obtain ⟨sl, q⟩ := hs₁.2.2 b o hb
      exact ⟨_, keep b _ hbe q⟩
  · rw [Heap.size_after_update, Heap.size_push, hs₁.1]; exact Nat.le_succ _
  · refine ⟨_, _, he₃, (Obj.cls_mapFields _ _).trans hc, ?_, hd₃, by simpa using hsz, hce, h₁.objs.size, _, _, by simp [hsz], hTe, hnew _ (by rw [hs₁.1]; exact Nat.le_refl _), hT₃, rfl, by first | (simp; done) | (rcases hpl with rfl | ⟨_, _, _, _, _, _, _, rfl⟩ <;> simp)⟩
    obtain ⟨c, d, dt, sl⟩ := oe
    dsimp only at hd hx
    subst hd
    exact hx
  · obtain ⟨sl, q⟩ := hs₁.2.2 b o hb
    exact ⟨_, keep b _ (noRecord b o hb hnf) q, rfl⟩
theorem flightX {fl : Value} {Q : Unit → Shared → Prop} {l : List Env} (hl : s.heap.FunFrames base l) (hx : XT ch s.heap e cls dx fl) (h : ∀ h', Nt (frs l) ch s.heap h' → XT ch h' e cls dx .none → h'.FunFrames base l → Q () { s with heap := h' }) :
    wpAny M A (setFlight (.ref e) none) Q E s := by
  obtain ⟨oe, vs, he, hc, hxd, hd, hsz, hce, T, oT, ts, h1, hTe, hcT, hT, hdT, h3⟩ := hx
  have hsz3 : 3 < ts.size := (Array.getElem?_eq_some_iff.mp h3).1
  have other : ∀ b, b ≠ T → (s.heap.update T (Obj.mapFields (·.setIfInBounds 3 ((none : Option Addr).elim Value.none fun f => rawInt f)))).get? b = s.heap.get? b :=
    fun b hb => Heap.get?_update_other _ _ (Ne.symm hb)
  have hTn := fields_notin hl hT hdT
  have hself := Heap.get?_update_self (Obj.mapFields (·.setIfInBounds 3 ((none : Option Addr).elim Value.none fun f => rawInt f))) hT (Obj.isFreed_of_fields (Obj.data_mapFields hdT _))
  unfold setFlight
  refine wpAny_bind (wpAny_field he hd h1 ?_)
  rw [if_pos (show (Value.ref T != Value.none) = true from by simp)]
  refine wpAny_setField hT hdT hsz3 (h _ ⟨fun b o hb hn hcb => (other b fun z => hcb (z ▸ hcT)).trans hb, fun b o hb hm => ⟨o.slots, (other b fun z => hTn (z ▸ hm)).trans hb⟩, fun b o hb => ?_, ?_⟩ ?_ (hl.of_keeps fun b o hb hnf => ⟨o, (other b fun z => ?_).trans hb, rfl⟩))
  · by_cases hbT : b = T
    · subst hbT; exact ⟨_, hself⟩
    · exact ⟨o, (other b hbT).trans hb⟩
  · rw [Heap.size_after_update]; exact Nat.le_refl _
  · exact ⟨oe, vs, (other e (Ne.symm hTe)).trans he, hc, hxd, hd, hsz, hce, T, _, _, h1, hTe, hcT, hself, Obj.data_mapFields hdT _, by simp [hsz3]⟩
  · subst z; rw [hT] at hb; cases hb; exact hnf ts hdT
theorem noteX {Q : Unit → Shared → Prop} (hfr : A.frames = some (env :: outer)) (hl : s.heap.FunFrames base (env :: outer)) (hf : env.frame = some L) (hnew : ∀ a, s.heap.objs.size ≤ a → ch a) (hx : XF ch s.heap e cls dx)
    (h : ∀ h', Nt (frs (env :: outer)) ch s.heap h' → XT ch h' e cls dx (rawInt L) → h'.FunFrames base (env :: outer) → Q () { s with heap := h' }) : wpAny M A (noteFrame (.ref e) env) Q E s := by
  unfold noteFrame
  simp only [hf]
  rcases hx with ⟨oe, vs, he, hc, hxd, hd, hce, h1⟩ | ⟨oe, vs, he, hc, hxd, hd, hsz, hce, T, oT, ts, h1, hTe, hcT, hT, hdT, h3⟩
  · refine wpAny_bind (wpAny_field he hd h1 ?_)
    rw [if_neg (by decide)]
    exact entryX hfr hl hf hnew he hc hxd hd (Array.getElem?_eq_some_iff.mp h1).1 hce h
  · refine wpAny_bind (wpAny_field he hd h1 ?_)
    rw [if_pos (show (Value.ref T != Value.none) = true from by simp)]
    refine wpAny_bind (wpAny_field hT hdT h3 ?_)
    rw [if_neg (show ¬ ((Value.none == rawInt L) = true) from by simp [rawInt])]
    refine wpAny_bind (wpAny_setField hT hdT (Array.getElem?_eq_some_iff.mp h3).1 ?_)
    have other : ∀ b, b ≠ T → (s.heap.update T (Obj.mapFields (·.setIfInBounds 3 Value.none))).get? b = s.heap.get? b := fun b hb => Heap.get?_update_other _ _ (Ne.symm hb)
    have hTn := fields_notin hl hT hdT
    have hself := Heap.get?_update_self (Obj.mapFields (·.setIfInBounds 3 Value.none)) hT (Obj.isFreed_of_fields (Obj.data_mapFields hdT _))
    have nt : Nt (frs (env :: outer)) ch s.heap (s.heap.update T (Obj.mapFields (·.setIfInBounds 3 Value.none))) := ⟨fun b o hb hn hcb => (other b fun z => hcb (z ▸ hcT)).trans hb, fun b o hb hm => ⟨o.slots, (other b fun z => hTn (z ▸ hm)).trans hb⟩, fun b o hb => by
      by_cases hbT : b = T
      · subst hbT; exact ⟨_, hself⟩
      · exact ⟨o, (other b hbT).trans hb⟩, by rw [Heap.size_after_update]; exact Nat.le_refl _⟩
    refine entryX (s := { s with heap := s.heap.update T (Obj.mapFields (·.setIfInBounds 3 Value.none)) }) hfr (hl.of_keeps fun b o hb hnf => ⟨o, (other b fun z => ?_).trans hb, rfl⟩) hf (fun a ha => hnew a (by rw [Heap.size_after_update] at ha; exact ha)) ((other e (Ne.symm hTe)).trans he) hc hxd hd hsz hce fun h' n x f => h h' (nt.trans n) x f
    subst z; rw [hT] at hb; cases hb; exact hnf ts hdT
theorem leaveX {Q : Unit → Shared → Prop} (hfr : A.frames = some (env :: outer)) (hl : s.heap.FunFrames base (env :: outer)) (hf : env.frame = some L) (hnew : ∀ a, s.heap.objs.size ≤ a → ch a) (hx : XF ch s.heap e cls dx)
    (h : ∀ h', Nt (frs (env :: outer)) ch s.heap h' → XT ch h' e cls dx .none → h'.FunFrames base (env :: outer) → Q () { s with heap := h' }) : wpAny M A (leaving env (.ref e)) Q E s := by
  unfold leaving
  refine wpAny_bind (noteX hfr hl hf hnew hx fun h1 n1 x1 f1 => ?_)
  exact flightX (s := { s with heap := h1 }) f1 x1 fun h2 n2 x2 f2 => h h2 (n1.trans n2) x2 f2
end
end L2

set_option Elab.async false
set_option linter.all false
set_option maxRecDepth 100000
/-! own classes of error with fields: the model's side -/
namespace L2
open PySem PySem.Spec PyProof.Rows Builtin Builtin.ObjectAttr
abbrev bmV : List Value := [.type "ValueError", .type "Exception", .type "BaseException", .type "object"]
/-- own classes, then those of ValueError -/
def overIn : List Value → Bool
  | .ref _ :: r => overIn r
  | l => l == bmV
theorem over_pass (self : Value) : ∀ {l : List Value}, overIn l = true → refuseLoop self "__setattr__" l = pure ()
  | .ref c :: r, e => by rw [refuseLoop_ref]; exact over_pass self e
  | [], e => by cases e
  | .none :: r, e => by cases e
  | .bool _ :: r, e => by cases e
  | .int _ _ :: r, e => by cases e
  | .float _ _ :: r, e => by cases e
  | .str _ _ :: r, e => by cases e
  | .bytes _ _ :: r, e => by cases e
  | .builtin _ :: r, e => by cases e
  | .type n :: r, e => by
    have e : (Value.type n :: r) = bmV := beq_iff_eq.mp e
    rw [e]; exact PySem.F.store_ValueError.passes self
  | .notImplemented :: r, e => by cases e
  | .ellipsis :: r, e => by cases e
theorem over_has {t : String} (ht : bmV.contains (.type t) = true) : ∀ {l : List Value}, overIn l = true → l.contains (.type t) = true
  | .ref c :: r, e => by rw [List.contains_cons, over_has (l := r) ht e, Bool.or_true]
  | [], e => by cases e
  | .none :: r, e => by cases e
  | .bool _ :: r, e => by cases e
  | .int _ _ :: r, e => by cases e
  | .float _ _ :: r, e => by cases e
  | .str _ _ :: r, e => by cases e
  | .bytes _ _ :: r, e => by cases e
  | .builtin _ :: r, e => by cases e
  | .type n :: r, e => by
    have e : (Value.type n :: r) = bmV := beq_iff_eq.mp e
    rw [e]; exact ht
  | .notImplemented :: r, e => by cases e
  | .ellipsis :: r, e => by cases e

/-- what an own class of error must have: how its instances are stored into and read -/
structure XCls (K : PySem.W.Frag) (C : Addr) : Prop where
  sa : PySem.W.findIn K (.ref C) "__setattr__" = some (some (.builtin "object.__setattr__"))
  ga : PySem.W.findIn K (.ref C) "__getattribute__" = some (some (.builtin "BaseException.__getattribute__"))
  gh : PySem.W.findIn K (.ref C) "__getattr__" = some none
  ov : (PySem.W.clsIn K C).any (fun cd => overIn cd.mro) = true
  hd : PySem.W.hasDictIn K C = true
section
variable {prog : Program} {w : World} {A : Around} {E : Value → Shared → Prop} {s : Shared} {K : PySem.W.Frag} {x C : Addr} {name : Str} {v : Value}
theorem XCls.sub {M : Model} {h : Heap} {ox : Obj} {od : Option Obj} {t : String} (c : XCls K C) (X : K.In h) (I : PySem.W.InstAt h x ox C od) (ht : bmV.contains (.type t) = true) : PySem.W.Looks M h (isInstance (.ref x) (.type t)) true := by
  obtain ⟨cd, hc, ho⟩ := PySem.W.any_some c.ov
  have ne : cd.mro.isEmpty = false := by cases q : cd.mro with | nil => rw [q] at ho; cases ho | cons _ _ => rfl
  exact I.type.andThen (PySem.W.looks_mroIn X (by unfold PySem.W.mroIn; rw [hc, Option.bind_some, if_neg (by rw [ne]; decide), over_has ht ho]))
theorem osaX {R : Result → Shared → Prop} {ox : Obj} {od : Option Obj} {tk : Tok} (X : K.In s.heap) (I : PySem.W.InstAt s.heap x ox C od) (c : XCls K C) (n : NoAttr K C name)
    (h : ∀ b, wpAny (model prog w) A.in1 (storeInOwnDict (.ref x) (.ref C) (.str name tk) name v b)
      (fun fin s' => match fin with | .done f => R (.ok f) s' | .again c' => c'.quiet = true ∧ codeAny (model prog w) A c' R s') (fun e s' => R (.error e) s') s) :
    codeAny (model prog w) A (.call (.builtin "object.__setattr__") ⟨[.ref x, .str name tk, v], []⟩) R s := by
  have SF := PySem.F.store_object
  obtain ⟨cd, hc, ho⟩ := PySem.W.any_some c.ov
  have sub : PySem.W.Looks (model prog w) s.heap (isInstance (.ref x) (.type "object")) true := c.sub X I (by decide +kernel)
  refine codeAny_call_builtin SF.slot.plain SF.entry (@PySem.W.check_slot (model prog w) _ _ s "object.__setattr__" "object" "__setattr__" (.ref x) [.str name tk, v] [] _ SF.kind SF.split sub (SF.args (.ref x) (.str name tk) v) ?_)
  have hm : PySem.W.Looks (model prog w) s.heap (mroOf (.ref C)) cd.mro := (PySem.W.looks_clsIn X hc).andThen .now
  rw [PySem.W.osa_eq, refuse_eq]
  refine wpAny_bind (wpAny_bind (I.type.here (wpAny_bind (hm.here ?_))))
  rw [over_pass _ ho]
  exact wpAny_pure (wpAny_bind (I.type.here (wpAny_bind ((PySem.W.looks_findIn X (show PySem.W.findIn K (.ref C) name = some none from n)).here (wpAny_bind (wpAny_pure (h _)))))))
/-- a field is laid into the dict that stands -/
theorem xset1 {dx : Addr} {ox : Obj} {mA : Str → Option Value} {ns : List Str} {Q : Unit → Shared → Prop} (X : K.In s.heap) (c : XCls K C) (n : NoAttr K C name) (hx : s.heap.get? x = some ox) (hcl : ox.cls = .ref C) (hnc : PySem.W.notCls ox = true) (hdx : ox.dict = some dx)
    (hns : s.heap.Ns1 dx mA) (hw : PySem.Within mA ns) (hsz : ns.length ≤ sizeLine)
    (h : ∀ h', h'.Ns1 dx (fun y => if y = name then some v else mA y) → Heap.SameBut dx s.heap h' → Q () { s with heap := h', toks := s.toks + 2 }) : wpAny (model prog w) A (setAttr (.ref x) name v) Q E s := by
  obtain ⟨od, ho, hl⟩ := lookIn_ns hns
  have I : PySem.W.InstAt s.heap x ox C (some od) := ⟨hx, hcl, hnc, by rw [hdx]; exact ho⟩
  refine PySem.W.set_plain X I c.sa (osaX (s := { s with toks := s.toks + 1 }) X I c n fun b => ?_)
  obtain ⟨cd, hc, hd'⟩ := PySem.W.any_some c.hd
  obtain ⟨oc, odi, oda, osl⟩ := ox
  dsimp only at hcl hdx
  subst hcl hdx
  refine wpAny_bind (wpAny_pure (wpAny_bind (wpAny_bind (wpAny_loadPart hx (wpAny_bind (PySem.W.Looks.here (s := { s with toks := s.toks + 1 }) (PySem.W.looks_clsIn X hc) ?_))))))
  rw [hd']
  refine wpAny_pure (a := some dx) (wpAny_bind (wpAny_pure (wpAny_bind ?_)))
  refine wpAny_nsSet1 (s := { s with toks := s.toks + 1 }) hns fun h' hn2 hs2 => ?_
  obtain ⟨oD, esD, epD, hoD, hdD, hcD⟩ := hn2.count (PySem.Within.cons name v hw)
  refine wpAny_bind (wpAny_lookBehind hoD (by rw [hdD]; exact pastItsLine_dict (Nat.le_trans hcD (by rw [List.length_cons]; omega))) ?_)
  exact wpAny_pure (h _ hn2 hs2)
/-- the first field: the dict is made -/
theorem xset0 {ox : Obj} {Q : Unit → Shared → Prop} (X : K.In s.heap) (c : XCls K C) (n : NoAttr K C name) (hx : s.heap.get? x = some ox) (hcl : ox.cls = .ref C) (hnc : PySem.W.notCls ox = true) (hdx : ox.dict = none)
    (h : ∀ h', h'.Ns1 s.heap.objs.size (fun y => if y = name then some v else none) → h'.get? x = some { ox with dict := some s.heap.objs.size } → (∀ b o, b ≠ x → s.heap.get? b = some o → h'.get? b = some o) → Q () { s with heap := h', toks := s.toks + 2 }) :
    wpAny (model prog w) A (setAttr (.ref x) name v) Q E s := by
  have I : PySem.W.InstAt s.heap x ox C none := ⟨hx, hcl, hnc, by rw [hdx]; trivial⟩
  refine PySem.W.set_plain X I c.sa (osaX (s := { s with toks := s.toks + 1 }) X I c n fun b => ?_)
  obtain ⟨cd, hc, hd'⟩ := PySem.W.any_some c.hd
  obtain ⟨oc, odi, oda, osl⟩ := ox
  dsimp only at hcl hdx
  subst hcl hdx
  refine wpAny_bind (wpAny_pure (wpAny_bind (wpAny_bind (wpAny_loadPart hx (wpAny_bind (PySem.W.Looks.here (s := { s with toks := s.toks + 1 }) (PySem.W.looks_clsIn X hc) ?_))))))
  rw [hd']
  have hx₁ : (s.heap.push { cls := .type "dict", data := .dict #[] }).get? x = some ⟨.ref C, none, oda, osl⟩ := Heap.get?_push_of_some _ hx
  have hxs : x ≠ s.heap.objs.size := Nat.ne_of_lt (Heap.lt_size hx)
  have hnf : (⟨.ref C, some s.heap.objs.size, oda, osl⟩ : Obj).isFreed = false := by
    have hfr := (Heap.get?_some_iff.mp hx).2
    cases oda <;> first | rfl | exact hfr
  rw [if_neg (by simp [typeHasDict])]
  cases oda with
  | cls c => cases hnc
  | _ =>
    refine wpAny_bind (wpAny_alloc' ?_)
    refine wpAny_bind (wpAny_update' hx₁ ?_)
    refine wpAny_pure ?_
    have hgd : ((s.heap.push { cls := .type "dict", data := .dict #[] }).update x fun o => { cls := o.cls, dict := some s.heap.objs.size, data := o.data, slots := o.slots }).get? s.heap.objs.size
        = some { cls := .type "dict", data := .dict #[] } :=
      (Heap.get?_update_ne _ _ _ _ hxs.symm).trans (Heap.get?_push_at rfl rfl)
    have hnd : ((s.heap.push { cls := .type "dict", data := .dict #[] }).update x fun o => { cls := o.cls, dict := some s.heap.objs.size, data := o.data, slots := o.slots }).Ns s.heap.objs.size (fun _ => none) :=
      ⟨_, #[], _, hgd, rfl, fun e he => absurd he (by simp), fun _ => rfl⟩
    show wpAny _ _ (storeInDict s.heap.objs.size (.str name s.toks) name v) _ _ _
    unfold storeInDict newKeyGuard
    refine wpAny_bind (wpAny_pure (wpAny_bind (wpAny_nsSet1 (Heap.Ns1.of_empty hnd) fun h' hn' hs => ?_)))
    obtain ⟨oD, esD, epD, hoD, hdD, hcD⟩ := hn'.count (Within.cons name v Within.nil)
    refine wpAny_bind (wpAny_lookBehind hoD (by rw [hdD]; exact pastItsLine_dict (Nat.le_trans hcD (by rw [List.length_cons, List.length_nil, sizeLine_eq]; omega))) ?_)
    exact wpAny_pure (h _ hn' ((hs.2 x hxs).trans (Heap.get?_update_self _ hx₁ hnf)) fun b o hb q => (hs.2 b (Nat.ne_of_lt (Heap.lt_size q))).trans ((Heap.get?_update_ne _ _ _ _ hb).trans (Heap.get?_push_of_some _ q)))
end
end L2

set_option Elab.async false
set_option linter.all false
set_option maxRecDepth 100000
/-! own classes of error: read, made, raised, met -/
namespace L2
open PySem PySem.Spec PyProof.Rows Builtin Builtin.ObjectAttr
section
variable {prog : Program} {w : World} {A : Around} {E : Value → Shared → Prop} {s : Shared} {K : PySem.W.Frag} {x C : Addr} {name : Str} {v : Value}
theorem xget {dx : Addr} {ox : Obj} {mA : Str → Option Value} {expr : Bool} {Q : Value → Shared → Prop} (X : K.In s.heap) (c : XCls K C) (n : NoAttr K C name) (hx : s.heap.get? x = some ox) (hcl : ox.cls = .ref C) (hnc : PySem.W.notCls ox = true) (hdx : ox.dict = some dx)
    (hns : s.heap.Ns1 dx mA) (hv : mA name = some v) (hh : PySem.W.handedIn v = true) (h : Q v { s with toks := s.toks + 1 }) : wpAny (model prog w) A (getAttr (.ref x) name expr) Q E s := by
  obtain ⟨od, ho, hl⟩ := lookIn_ns hns
  have I : PySem.W.InstAt s.heap x ox C (some od) := ⟨hx, hcl, hnc, by rw [hdx]; exact ho⟩
  have hf := PySem.W.findObj_own (attr := none) c.hd n rfl (by rw [hl, hv])
  obtain ⟨hp, g, d, t, os⟩ := s
  have L0 := I.type (M := model prog w)
  have L1 := PySem.W.looks_findIn (M := model prog w) X c.ga
  have L2' := PySem.W.looks_findIn (M := model prog w) X c.gh
  have L3 := PySem.W.looks_find (M := model prog w) X I hf
  have f3 := PySem.F.attr_ValueError.ga.bind (.ref x)
  have sub : PySem.W.Looks (model prog w) hp (isInstance (.ref x) (.type "BaseException")) true := c.sub X I (by decide +kernel)
  have hx0 : (expr && onTheHeap (Value.builtin "BaseException.__getattribute__")) = false := by cases expr <;> rfl
  have hx2 : (Value.builtin "BaseException.__getattribute__" == Value.builtin "object.__getattribute__") = false := by decide +kernel
  have hx1 : (onTheHeap (Value.ref C) && Value.builtin "BaseException.__getattribute__" == Value.builtin "object.__getattribute__") = false := by rw [hx2]; rfl
  unfold getAttr getAttrBy
  refine wpAny_bind (wpAny_mkText (wpAny_holding (wpAny_bind (L0.at (wpAny_bind (L1.at ?_))))))
  dsimp only
  rw [hx1]
  show wpAny _ _ (getAttrByItsOwn _ _ _ _ _ _) _ _ _
  unfold getAttrByItsOwn
  refine wpAny_bind (show wpAny _ _ (typeLookup (.ref C) "__getattr__") _ _ _ from L2'.at ?_)
  refine wpAny_bind (wpAny_attempt (wpAny_holding ?_))
  unfold callGetattribute
  rw [hx0]
  show wpAny _ _ (boundAndCalled _ _ _) _ _ _
  unfold boundAndCalled
  rw [f3]
  refine wpAny_bind (wpAny_pure ?_)
  have hk : builtinKind "BaseException.__getattribute__" = some .slot := by decide +kernel
  have hsplit : splitId "BaseException.__getattribute__" = some ("BaseException", "__getattribute__") := by decide +kernel
  refine wpAny_call (codeAny_call_builtin PySem.F.attr_ValueError.ga.plain PySem.F.entry_bexc_ga (@PySem.W.check_slot (model prog w) _ _ _ _ "BaseException" "__getattribute__" (.ref x) [.str name t] [] _ hk hsplit sub (PySem.F.args_bexc_ga _ _) ?_))
  unfold Builtin.«object.__getattribute__»
  refine wpAny_bind (wpAny_pure ?_)
  refine wpAny_bind (wpAny_pure (wpAny_bind (L0.at (wpAny_bind (L3.at ?_)))))
  refine wpAny_pure ?_
  show wpAny _ _ (handedOut v) _ _ _
  rw [PySem.W.handedOut_of hh]
  exact wpAny_pure h
end

/-- an own class of error, below ValueError, made by its new -/
def excInI (K : PySem.W.Frag) (C : Addr) : Bool := match K.lookup C with
  | some ⟨.type "type", _, .cls cd, sl⟩ => (match cd.mro, sl.toList with
    | .ref C' :: bm, [_, _, _, _, some (.builtin n), _] => C' == C && n == "ValueError.__new__" && !cd.hasDel && PySem.W.tailIn K bmV bm
    | _, _ => false)
  | _ => false
theorem exc_of_in {K : PySem.W.Frag} {h : Heap} {C : Addr} (X : K.In h) (q : excInI K C = true) : ∃ bm N nm qn bs hd sn sub ab col dd k0 k1 k2 k3 k5,
    h.get? C = some (excClassObj nm qn C N bs bm hd sn sub ab col dd k0 k1 k2 k3 k5 "ValueError.__new__") ∧ OwnTail h bmV bm := by
  unfold excInI at q
  split at q
  · rename_i dd cd sl ho
    split at q
    · rename_i C' bm k0 k1 k2 k3 n k5 hm hs
      simp only [Bool.and_eq_true, beq_iff_eq, Bool.not_eq_true'] at q
      obtain ⟨⟨⟨rfl, rfl⟩, hdel⟩, ht⟩ := q
      obtain ⟨nm, bs, mro, ns, qn, hd, sn, sub, ab, col, del⟩ := cd
      dsimp only at hm hdel
      subst hm hdel
      have hsl : sl = #[k0, k1, k2, k3, some (.builtin "ValueError.__new__"), k5] := by
        obtain ⟨l⟩ := sl
        simp only at hs
        rw [hs]
      subst hsl
      exact ⟨bm, ns, nm, qn, bs, hd, sn, sub, ab, col, dd, k0, k1, k2, k3, k5, X _ _ ho, PySem.W.tail_of_in X ht⟩
    · cases q
  · cases q
section
variable {prog : Program} {w : World} {A : Around} {E : Value → Shared → Prop} {h : Heap} {g : Array GenState} {d : Drawn} {t : Nat} {os : OsState}
theorem exc_tcall {K : PySem.W.Frag} {C fI : Addr} {rest : List Value} {Q : Fin → Shared → Prop} (X : K.In h) (q : excInI K C = true) (hi : PySem.W.findIn K (.ref C) "__init__" = some (some (.ref fI))) (hf : PySem.W.typeIn K (.ref fI) = some (.type "function"))
    (hq : ∀ h' e, h.objs.size ≤ e → Heap.MadeExcOf h h' e (.ref C) rest →
      wpAny (model prog w) A (call (.ref fI) (.ref e :: rest)) (fun r s' => r = .none ∧ Q (.done (.ret (.ref e))) s') E ⟨h', g, d, t, os⟩) (hrest : rest.length ≤ sizeLine) :
    wpAny (model prog w) A (Builtin.«type.__call__» ⟨.ref C :: rest, []⟩) Q E ⟨h, g, d, t, os⟩ := by
  obtain ⟨bm, N, nm, qn, bs, hdct, sn, sub, ab, col, dd, k0, k1, k2, k3, k5, hC, T⟩ := exc_of_in X q
  have F := PySem.F.excBase_ValueError
  repeat (first | with_reducible refine wpAny_loadPart_at hC ?_ | with_reducible refine wpAny_madeBy_exc hC ?_ | wp_step)
  refine codeAny_call_builtin_code (Code.quiet_builtin _ F.quiet) (wpAny_check_new_subT F T hC ?_)
  refine codeAny_exc_new_subT F T hC ?_ hrest
  show wpAny _ _ _ _ _ _
  have kp : ∀ b o, h.get? b = some o → ((h.push { cls := .type "tuple", data := .seq rest.toArray }).push { cls := .ref C, data := .fields #[.ref h.objs.size, .none, .none, .none, .bool false, .none] }).get? b = some o :=
    fun b o hb => Heap.get?_push_of_some _ (Heap.get?_push_of_some _ hb)
  have hC₁ := kp _ _ hC
  have hget : ((h.push { cls := .type "tuple", data := .seq rest.toArray }).push
      { cls := .ref C, data := .fields #[.ref h.objs.size, .none, .none, .none, .bool false, .none] }).get? (h.objs.size + 1) = some
      { cls := .ref C, data := .fields #[.ref h.objs.size, .none, .none, .none, .bool false, .none] } := by heap_get
  have hcC : (Value.ref C :: bm).contains (.ref C) = true := by simp
  have X₁ := X.keeps kp
  unfold isInstance
  repeat (first | with_reducible refine wpAny_loadPart_at hget ?_ | (with_reducible refine wpAny_isSubtype_exc hC₁ ?_; rw [hcC]) | wp_step)
  show wpAny _ _ (typeLookup (.ref C) _) _ _ _
  refine (PySem.W.looks_findIn X₁ hi).at ?_
  refine wpAny_holding (wpAny_bind ((PySem.W.bind_fn X₁ _ hf).at ?_))
  refine wpAny_bind (wpAny_mono (hq _ (h.objs.size + 1) (Nat.le_succ _) ⟨kp, Heap.get?_none_of_le (Nat.le_succ _), h.objs.size, hget, Heap.get?_none_of_le (Nat.le_refl _), ?_⟩) (fun r s' hr => ?_) fun _ _ x => x)
  · exact Heap.get?_push_of_some _ (Heap.get?_push_at rfl rfl)
  · obtain ⟨rfl, hQ⟩ := hr
    wp_walk
    exact hQ
theorem exc_make {K : PySem.W.Frag} {C fI : Addr} {rest : List Value} {Q : Value → Shared → Prop} (X : K.In h) (q : excInI K C = true) (hi : PySem.W.findIn K (.ref C) "__init__" = some (some (.ref fI))) (hf : PySem.W.typeIn K (.ref fI) = some (.type "function"))
    (hq : ∀ h' e, h.objs.size ≤ e → Heap.MadeExcOf h h' e (.ref C) rest →
      wpAny (model prog w) (A.under (.builtin "type.__call__" ⟨.ref C :: rest, []⟩)) (call (.ref fI) (.ref e :: rest)) (fun r s' => r = .none ∧ Q (.ref e) s') E ⟨h', g, d, t, os⟩) (hrest : rest.length ≤ sizeLine) :
    wpAny (model prog w) A (call (.ref C) rest) Q E ⟨h, g, d, t, os⟩ := by
  obtain ⟨bm, N, nm, qn, bs, hdct, sn, sub, ab, col, dd, k0, k1, k2, k3, k5, hC, T⟩ := exc_of_in X q
  have f1 := tc_lookup
  have f2 := tc_bind (.ref C)
  have hT : (⟨h, g, d, t, os⟩ : Shared).TypeIs (.ref C) "type" := ⟨_, hC, rfl⟩
  refine wpAny_call (codeAny_of_tree ?_)
  show wpAny _ _ (callAny (.ref C) _) _ _ _
  repeat (any_goals (first | assumption | with_reducible refine wpAny_loadPart_at hC ?_ | wp_step))
  refine ⟨rfl, ?_⟩
  refine codeAny_call_builtin_at (Code.quiet_builtin _ (by decide +kernel)) entry_typeCall (wpAny_check_type_call_sub hC (exc_tcall X q hi hf (fun h' e hz hm => ?_) hrest))
  exact hq h' e hz hm
/-- what was made is raised -/
theorem exc_raise {K : PySem.W.Frag} {C : Addr} {env : Env} {s : Shared} {x : Sem Value} {Q : Flow → Shared → Prop} (q : excInI K C = true) (hh : A.handled = none)
    (h : wpAny (model prog w) A x (fun v s₁ => ∃ e oe, v = .ref e ∧ K.In s₁.heap ∧ s₁.heap.get? e = some oe ∧ oe.cls = .ref C ∧ (∃ vs, oe.data = .fields vs ∧ vs[1]? = some .none) ∧ E (.ref e) s₁) E s) :
    wpAny (model prog w) A (raiseStmt env (some x) none) Q E s := by
  unfold raiseStmt
  refine wpAny_bind (wpAny_mono h (fun v s₁ h₁ => ?_) fun _ _ x => x)
  obtain ⟨e, oe, rfl, X, he, hcl, ⟨vs, hd, h1⟩, hE⟩ := h₁
  obtain ⟨oc, odi, oda, osl⟩ := oe
  dsimp only at hcl hd
  subst hcl hd
  obtain ⟨hp, g, d, tk, os⟩ := s₁
  obtain ⟨bm, N, nm, qn, bs, hdct, sn, sub, ab, col, dd, k0, k1, k2, k3, k5, hC, T⟩ := exc_of_in X q
  have hcB : (Value.ref C :: bm).contains (.type "BaseException") = true := by rw [List.contains_cons, T.hasType (by decide +kernel : bmV.contains (.type "BaseException") = true), Bool.or_true]
  repeat (first | with_reducible refine wpAny_loadPart_at he ?_ | with_reducible refine wpAny_field he rfl h1 ?_ | with_reducible refine wpAny_loadPart_at hC ?_ | (with_reducible refine wpAny_isSubtype_exc hC ?_; rw [hcB]) | wp_step)
  exact wpAny_raiseNew_none hh hE
end
end L2

set_option Elab.async false
set_option linter.all false
set_option maxRecDepth 100000
/-! an exception that flies, over the abstract heap -/
namespace L2
open PySem PySem.Spec PyProof.Rows
/-- the exception at a: of the class at C, its dict at dx -/
def XO (a C dx : Addr) : HO := .ext fun h => ∃ oe vs, h.get? a = some oe ∧ oe.cls = .ref C ∧ oe.dict = some dx ∧ oe.data = .fields vs
/-- one that is being made -/
def XI (a C : Addr) (dx : Option Addr) : HO := .ext fun h => ∃ oe vs, h.get? a = some oe ∧ oe.cls = .ref C ∧ oe.dict = dx ∧ oe.data = .fields vs ∧ vs[1]? = some .none
def Ch (n : Nat) (H : Hp) (a b : Addr) : Prop := n ≤ b ∧ (b = a ∨ H b = none)
section
variable {P : Program} {w : World} {H H' : Hp} {h h' : Heap} {a C dx : Addr}
theorem xo_ok {oe : Obj} {vs : Array Value} (h1 : h.get? a = some oe) (h2 : oe.cls = .ref C) (h3 : oe.dict = some dx) (h4 : oe.data = .fields vs) : ObjOk P w H h a (XO a C dx) :=
  ⟨⟨oe, vs, h1, h2, h3, h4⟩, ⟨oe, h1⟩, fun _ _ ⟨oe, vs, h1, r⟩ k => ⟨oe, vs, k _ h1, r⟩⟩
theorem xi_ok {dx : Option Addr} {oe : Obj} {vs : Array Value} (h1 : h.get? a = some oe) (h2 : oe.cls = .ref C) (h3 : oe.dict = dx) (h4 : oe.data = .fields vs) (h5 : vs[1]? = some .none) : ObjOk P w H h a (XI a C dx) :=
  ⟨⟨oe, vs, h1, h2, h3, h4, h5⟩, ⟨oe, h1⟩, fun _ _ ⟨oe, vs, h1, r⟩ k => ⟨oe, vs, k _ h1, r⟩⟩
theorem nt_hok {fs : List Addr} {n : Nat} {fl : Value} (ok : HOk P w H h) (nt : Nt fs (Ch n H a) h h') (hf : ∀ b ∈ fs, H b = none) (ob : H a = some (XO a C dx)) (x : XT (Ch n H a) h' a (.ref C) (some dx) fl) : HOk P w H h' := fun b o e => by
  by_cases hb : b = a
  · subst hb
    rw [ob] at e; cases e
    obtain ⟨oe, vs, h1, h2, h3, h4, _⟩ := x
    exact xo_ok h1 h2 h3 h4
  · refine (ok b o e).stay (fun c u hc q => nt.keep c u q (fun z => ?_) fun z => ?_) (fun _ q => q) fun _ _ q => q
    · rcases hc with rfl | hc
      · rw [hf _ z] at e; cases e
      · rw [hf _ z] at hc; cases hc
    · rcases hc with rfl | hc
      · rcases z.2 with z | z
        · exact hb z
        · rw [z] at e; cases e
      · rcases z.2 with z | z
        · subst z; rw [ob] at hc; cases hc
        · rw [z] at hc; cases hc
open Classical in
noncomputable def chL (ch : Addr → Prop) (h : Heap) : List Addr := (List.range h.objs.size).filter fun b => decide (ch b)
theorem un_nt {fs : List Addr} {ch : Addr → Prop} (nt : Nt fs ch h h') : Un fs (chL ch h) H H h h' := by
  classical
  have no : ∀ b o, h.get? b = some o → b ∉ chL ch h → ¬ ch b := fun b o e n z => n (List.mem_filter.mpr ⟨List.mem_range.mpr (Heap.lt_size e), by simpa using z⟩)
  exact ⟨fun b o e _ hb hx => nt.keep b o e hb (no b o e hx), fun b o e _ hb _ => nt.slot b o e hb, fun _ _ _ n _ => n, fun b o e _ => nt.there b o e, fun _ _ q => q, fun _ _ _ q => q, fun _ ps q => ⟨#[], by rw [q]; simp⟩⟩
end
/-- from (H, s) to (H', s') the exception at a came up -/
structure Fly (P : Program) (w : World) (fs : List Addr) (H : Hp) (s : Shared) (H' : Hp) (s' : Shared) (a C dx : Addr) : Prop where
  os : s'.os = s.os
  bare : AllBare s'.gens
  un : Un fs [] H H' s.heap s'.heap
  hok : HOk P w H' s'.heap
  new : s.heap.objs.size ≤ a
  ob : H' a = some (XO a C dx)
  xf : XF (Ch s.heap.objs.size H' a) s'.heap a (.ref C) (some dx)
/-- behind a call -/
def CXE (P : Program) (w : World) : CXT := fun outer H s E e s' => ∃ a C dx H', e = .ref a ∧ Fly P w (frs outer) H s H' s' a C dx ∧ E (.ref C) (some a) H'
/-- what this body wants of an exception that comes up where the slots hold σ -/
def Wish (X : Cx) (σ : St) (E : XK) : Prop := ∀ (pins : List (Addr × Obj)) (H : Hp) (s : Shared) (H' : Hp) (s' : Shared) (a C dx : Addr), Inv X pins σ H s → Fly X.prog X.w (frs X.stack) H s H' s' a C dx → E (.ref C) (some a) H' → X.xe (.ref a) s'
section
variable {X : Cx} {pins : List (Addr × Obj)} {σ : St} {H H' : Hp} {s s' : Shared} {a C dx : Addr}
theorem Fly.inv (F : Fly X.prog X.w (frs X.stack) H s H' s' a C dx) (I : Inv X pins σ H s) : Inv X pins σ H' s' := I.call' (ch := []) F.os F.un F.hok F.bare fun b z => absurd z (by simp)
theorem XF.mono {ch ch' : Addr → Prop} {h : Heap} {e : Addr} {cls : Value} {dx : Option Addr} (hc : ∀ b, ch b → ch' b) (x : XF ch h e cls dx) : XF ch' h e cls dx := by
  rcases x with ⟨oe, vs, h1, h2, h3, h4, h5, h6⟩ | ⟨oe, vs, h1, h2, h3, h4, h5, h6, T, oT, ts, h7, h8, h9, r⟩
  · exact .inl ⟨oe, vs, h1, h2, h3, h4, hc _ h5, h6⟩
  · exact .inr ⟨oe, vs, h1, h2, h3, h4, h5, hc _ h6, T, oT, ts, h7, h8, hc _ h9, r⟩
theorem inv_hch {n : Nat} (I : Inv X pins σ H s) (hn : s.heap.objs.size ≤ n) {h : Heap} {H' : Hp} : ∀ b ∈ chL (Ch n H' a) h, (b ∈ X.ex ∨ X.s_0.heap.objs.size ≤ b) ∧ b ≠ X.env.locals ∧ (∀ x c, X.env.cells.lookup x = some c → c ≠ b) ∧ ∀ p ∈ X.pn ++ pins, p.1 ≠ b := fun b hb => by
  classical
  have hc : Ch n H' a b := by
    have := (List.mem_filter.mp hb).2
    exact of_decide_eq_true this
  have hl : s.heap.objs.size ≤ b := Nat.le_trans hn hc.1
  refine ⟨.inr (Nat.le_trans I.sz hl), ?_, fun x c e z => ?_, fun p hp z => ?_⟩
  · exact Nat.ne_of_gt (Nat.lt_of_lt_of_le I.lt hl)
  · obtain ⟨v, hv⟩ := I.cell x c e
    have : c < s.heap.objs.size := hv.lt
    exact absurd (z ▸ hl) (Nat.not_le_of_lt this)
  · have := Heap.lt_size (I.pin p hp).1
    exact absurd (z ▸ hl) (Nat.not_le_of_lt this)
theorem XF.lt {ch : Addr → Prop} {h : Heap} {e : Addr} {cls : Value} {dx : Option Addr} (x : XF ch h e cls dx) : e < h.objs.size := by
  rcases x with ⟨oe, vs, h1, _⟩ | ⟨oe, vs, h1, _⟩ <;> exact Heap.lt_size h1
theorem Fly.fresh (F : Fly X.prog X.w (frs X.stack) H s H' s' a C dx) : ∀ b, s'.heap.objs.size ≤ b → Ch s.heap.objs.size H' a b := fun b hb =>
  ⟨Nat.le_trans F.new (Nat.le_trans (Nat.le_of_lt F.xf.lt) hb), .inr (F.hok.fresh hb)⟩
/-- behind a note: the state of the body -/
theorem Fly.noted {fl : Value} {h'' : Heap} (F : Fly X.prog X.w (frs X.stack) H s H' s' a C dx) (I : Inv X pins σ H s) (nt : Nt (frs X.stack) (Ch s.heap.objs.size H' a) s'.heap h'') (xt : XT (Ch s.heap.objs.size H' a) h'' a (.ref C) (some dx) fl) :
    Inv X pins σ H' { s' with heap := h'' } := by
  have I' := F.inv I
  exact I'.call' (s' := { s' with heap := h'' }) rfl (un_nt nt) (nt_hok F.hok nt I'.stkFree F.ob xt) F.bare (inv_hch I (Nat.le_refl _))
end
/-- a def's body: the exception leaves it -/
theorem wish_def {P : Program} {w : World} {K : PySem.W.Frag} {mg : Str → Option Value} {base : Heap} {N : List Str} {qual : Str} {scope : Scope} {f : Addr} {cd : Value} {A : Around} {outer : List Env} {s0 : Shared} {H0 : Hp} {E : XK} {σ : St} :
    Wish (cxOf (CXE P w) P w K mg base N qual scope f cd A outer s0 H0 E) σ E := by
  intro pins H s H' s' a C dx I F hE
  have I' := F.inv I
  refine leaveX (base := base) (L := s0.heap.objs.size) (ch := Ch s.heap.objs.size H' a) I.ok.frames I'.stack rfl F.fresh F.xf fun h'' nt xt ff => ?_
  have I2 := F.noted I nt xt
  refine ⟨a, C, dx, H', rfl, ⟨I2.os, I2.bare, I2.base, I2.hok, Nat.le_trans I.sz F.new, F.ob, XF.mono (fun b hb => ⟨Nat.le_trans I.sz hb.1, hb.2⟩) (.inr xt)⟩, hE⟩
section
variable {X : Cx}
def tCallX (X : Cx) (sp : Sp) (dvs : List V) (t : TA) : TE := fun σ H Q => t σ H fun vs H1 => ∃ E, Wish X σ E ∧ sp (vs ++ dvs) H1 Q E
end
end L2

set_option Elab.async false
set_option linter.all false
set_option maxRecDepth 100000
/-! errors of own classes: their __init__, raise -/
namespace L2
open PySem PySem.Spec PyProof.Rows
section
variable {X : Cx} {pins : List (Addr × Obj)} {σ : St} {H : Hp} {s : Shared} {a C dx : Addr} {f : Str} {y : V} {u : Value} {fs : List (Str × V)}
theorem within_lookup {mA : Str → Option Value} {fs : List (Str × V)} (r : ∀ f, RelO (fs.lookup f) (mA f)) : PySem.Within mA (fs.map (·.1)) := fun g hg => by
  have q := r g
  have hl : ∀ (l : List (Str × V)), (l.lookup g).isSome = true → g ∈ l.map (·.1) := by
    intro l
    induction l with
    | nil => intro z; cases z
    | cons p t ih =>
      obtain ⟨k, v⟩ := p
      intro z
      rw [List.lookup_cons] at z
      cases hk : (g == k) with
      | true => rw [beq_iff_eq.mp hk]; simp
      | false => rw [hk] at z; exact List.mem_cons_of_mem _ (ih z)
  refine hl fs ?_
  cases e : fs.lookup g with
  | some v => rfl
  | none => rw [e] at q; exact absurd (RelO.none_of q) hg
/-- the first field -/
theorem setx0 {A : Around} {E : Value → Shared → Prop} {Q : Unit → Shared → Prop} (I : Inv X pins σ H s) (e : H a = some (XI a C none)) (c : XCls X.K C) (n : NoAttr X.K C f) (ry : RelV y u)
    (h : ∀ dx s', H dx = none → dx ≠ a → Inv X pins σ (upd (upd H dx (.xd [(f, y)])) a (XI a C (some dx))) s' → Q () s') : wpAny (model X.prog X.w) A (setAttr (.ref a) f u) Q E s := by
  obtain ⟨⟨oe, vs, h1, h2, h3, h4, h5⟩, _, _⟩ := I.hok _ _ e
  have hnd : H s.heap.objs.size = none := I.hok.fresh (Nat.le_refl _)
  have hne : s.heap.objs.size ≠ a := fun z => by rw [z, e] at hnd; cases hnd
  refine xset0 I.kIn c n h1 h2 (by unfold PySem.W.notCls; rw [h4]) h3 fun h' hns hx k => h s.heap.objs.size _ hnd hne ?_
  have hst : ∀ b o, b ≠ a → s.heap.get? b = some o → h'.get? b = some o := fun b o hb q => k b o hb q
  have hown : ∀ b z, H b = some (.own z) → b ≠ a := fun b z q e' => by rw [e', e] at q; cases q
  refine I.un ⟨fun b o q nb _ _ => hst b o (fun z => by rw [z, e] at nb; cases nb) q, fun b o q nb _ _ => ⟨o.slots, hst b o (fun z => by rw [z, e] at nb; cases nb) q⟩, fun b o q nb _ => ?_, fun b o q _ => ?_, fun b xs q => ?_, fun b o xs q => ?_, fun b ps q => ⟨#[], ?_⟩⟩ fun b o q => ?_
  · rw [upd_ne (fun z => by rw [z, e] at nb; cases nb), upd_ne (Nat.ne_of_lt (Heap.lt_size q))]; exact nb
  · by_cases hb : b = a
    · rw [hb]; exact ⟨_, hx⟩
    · exact ⟨o, hst b o hb q⟩
  · rw [upd_ne (fun z => by rw [z, e] at q; cases q), upd_ne (ne_of_none q hnd)]; exact q
  · rw [upd_ne (fun z => by rw [z, e] at q; cases q), upd_ne (ne_of_none q hnd)]; exact q
  · rw [upd_ne (fun z => by rw [z, e] at q; cases q), upd_ne (ne_of_none q hnd), q]; simp
  · by_cases hb : b = a
    · subst hb
      rw [upd_same] at q; cases q
      exact xi_ok hx h2 rfl h4 h5
    · rw [upd_ne hb] at q
      by_cases hd : b = s.heap.objs.size
      · subst hd
        rw [upd_same] at q; cases q
        refine ⟨_, hns, fun g => ?_⟩
        show RelO (List.lookup g [(f, y)]) (if g = f then some u else none)
        rw [List.lookup_cons]
        by_cases hg : g = f
        · rw [if_pos hg, show (g == f) = true from beq_iff_eq.mpr hg]; exact ry
        · rw [if_neg hg, show (g == f) = false from by simpa using hg]; trivial
      · rw [upd_ne hd] at q
        exact (I.hok b o q).stay (fun c v hc r => hst c v (hc.elim (fun z => z ▸ hb) fun z => hown c b z) r)
          (fun c r => by rw [upd_ne (hown c b r), upd_ne (ne_of_none r hnd)]; exact r) fun c xs r => by
            rw [upd_ne (fun z => by rw [z, e] at r; cases r), upd_ne (ne_of_none r hnd)]; exact r
/-- a further one -/
theorem setx1 {A : Around} {E : Value → Shared → Prop} {Q : Unit → Shared → Prop} (I : Inv X pins σ H s) (e : H a = some (XI a C (some dx))) (ed : H dx = some (.xd fs)) (hl : fs.length < 1000) (c : XCls X.K C) (n : NoAttr X.K C f) (ry : RelV y u)
    (h : ∀ s', Inv X pins σ (upd H dx (.xd (putF f y fs))) s' → Q () s') : wpAny (model X.prog X.w) A (setAttr (.ref a) f u) Q E s := by
  obtain ⟨⟨oe, vs, h1, h2, h3, h4, h5⟩, _, _⟩ := I.hok _ _ e
  obtain ⟨mA, hns, r⟩ := I.hok _ _ ed
  have hz : (fs.map (·.1)).length ≤ sizeLine := by rw [List.length_map, sizeLine_eq]; omega
  refine xset1 I.kIn c n h1 h2 (by unfold PySem.W.notCls; rw [h4]) h3 hns (within_lookup r) hz fun h' hns' sb => h _ ?_
  have hst : ∀ b o, b ≠ dx → s.heap.get? b = some o → h'.get? b = some o := fun b o hb q => (sb.2 b hb).trans q
  refine I.un ⟨fun b o q nb _ _ => hst b o (fun z => by rw [z, ed] at nb; cases nb) q, fun b o q nb _ _ => ⟨o.slots, hst b o (fun z => by rw [z, ed] at nb; cases nb) q⟩, fun b o q nb _ => ?_, fun b o q _ => ?_, fun b xs q => ?_, fun b o xs q => ?_, fun b ps q => ⟨#[], ?_⟩⟩ fun b o q => ?_
  · rw [upd_ne (fun z => by rw [z, ed] at nb; cases nb)]; exact nb
  · by_cases hb : b = dx
    · obtain ⟨o', _, _, e', _⟩ := hns'; rw [hb]; exact ⟨_, e'⟩
    · exact ⟨o, hst b o hb q⟩
  · rw [upd_ne (fun z => by rw [z, ed] at q; cases q)]; exact q
  · rw [upd_ne (fun z => by rw [z, ed] at q; cases q)]; exact q
  · rw [upd_ne (fun z => by rw [z, ed] at q; cases q), q]; simp
  · by_cases hb : b = dx
    · subst hb
      rw [upd_same] at q; cases q
      refine ⟨_, hns', fun g => ?_⟩
      show RelO ((putF f y fs).lookup g) (if g = f then some u else mA g)
      rw [lookup_putF]
      by_cases q : g = f
      · rw [if_pos q, if_pos q]; exact ry
      · rw [if_neg q, if_neg q]; exact r g
    · rw [upd_ne hb] at q
      exact (I.hok b o q).stay (fun c v hc r => hst c v (hc.elim (fun z => z ▸ hb) fun z z' => by rw [z', ed] at z; cases z) r)
        (fun c r => by rw [upd_ne (fun z => by rw [z, ed] at r; cases r)]; exact r) fun c xs r => by
          rw [upd_ne (fun z => by rw [z, ed] at r; cases r)]; exact r
/-- self.f = v in an error's __init__ -/
def sXF (K : PySem.W.Frag) (ta tv : TE) (f : Str) : TS := fun D σ H => tv σ H fun y H1 => ta σ H1 fun x H2 => ∃ a C, x = .ref a ∧ XCls K C ∧ NoAttr K C f ∧
  ((H2 a = some (XI a C none) ∧ ∀ dx, H2 dx = none → dx ≠ a → D.nx σ (upd (upd H2 dx (.xd [(f, y)])) a (XI a C (some dx)))) ∨
    ∃ dx fs, H2 a = some (XI a C (some dx)) ∧ H2 dx = some (.xd fs) ∧ fs.length < 1000 ∧ D.nx σ (upd H2 dx (.xd (putF f y fs))))
theorem ps_xf {o value : Expr} {ta tv : TE} {pos pos' : Pos} (ha : PE X o ta) (hv : PE X value tv) (hs : swapsWith value (some (.Attribute o f pos')) pos.line X.env = pure false) : PS X (.Assign [.Attribute o f pos'] value pos) (sXF X.K ta tv f) := by
  intro pins s σ H D I h
  refine plainObj_wpAny_Assign_Attribute (thn (hv pins s σ H _ I h) fun u s1 ⟨y, H1, I1, ry, q⟩ => thn (ha pins s1 σ H1 _ I1 q) fun ov s2 ⟨x, H2, I2, rx, a, C, ex, c, n, q2⟩ => ?_) hs
  subst ex
  obtain rfl : ov = Value.ref a := rx
  rcases q2 with ⟨e, q2⟩ | ⟨dx, fs, e, ed, hl, q2⟩
  · exact setx0 I2 e c n ry fun dx s3 hd hn I3 => ⟨σ, _, I3, q2 dx hd hn⟩
  · exact setx1 I2 e ed hl c n ry fun s3 I3 => ⟨σ, _, I3, q2⟩
end
/-- what a class of error must have to be made and raised -/
structure XMk (K : PySem.W.Frag) (C fI : Addr) : Prop where
  exc : excInI K C = true
  init : PySem.W.findIn K (.ref C) "__init__" = some (some (.ref fI))
  fn : PySem.W.isFn K (.ref fI) = true
  kp : PySem.W.keepIn K (.ref C) = true
section
variable {X : Cx}
def sRaise (X : Cx) (C : Addr) (sp : Sp) (t : TA) : TS := fun D σ H => t σ H fun vs H1 => vs.length ≤ 1000 ∧ ∃ E, Wish X σ E ∧ ∀ a, H1 a = none →
  sp (.ref a :: vs) (upd H1 a (XI a C none)) (fun v H2 => v = .non ∧ ∃ dx, H2 a = some (XI a C (some dx)) ∧ E (.ref C) (some a) (upd H2 a (XO a C dx))) E0
theorem ps_raise {k : Nat} {C fI : Addr} {fd : FuncData} {ps : List Str} {sp : Sp} {x : Str} {p cpos pos : Pos} {e : Expr} {es : List Expr} {t : TA} (M : XMk X.K C fI) (F : FnOk X.prog X.w X.K X.mg X.base CX0 k fI fd ps sp) (hr : Room (k + 1) X.A) (hcalm : X.calm = true) (hg : Gl X x) (hm : X.mg x = some (.ref C)) (hb : Binds X.K fd ps [])
    (ha : PA X (e :: es) t) (hdb : (x == ("__debug__" : Str)) = false := by decide) (he : starEach (e :: es) X.env = (false, eval e X.env) :: starEach es X.env := by rfl) (hpl : (backTo cpos (starEach es X.env)).any (·.1) = false := by rfl) :
    PS X (.Raise (some (.Call (.Name x p) (e :: es) [] cpos)) none pos) (sRaise X C sp t) := by
  intro pins s σ H D I h
  rw [arm_exec_Raise]
  refine wpAny_bind (wpAny_standAt (exc_raise (K := X.K) (C := C) M.exc (I.ok.hd hcalm) (wpAny_bind (wpAny_mono ?_ (fun v s3 h3 => wpAny_bind (wpAny_standAt (wpAny_pure h3))) fun _ _ z => z))))
  refine wpAny_Call_Name_kw (ld_glob I hg hm ?_ hdb)
  refine PySem.W.callWith_K (h₀ := X.base) I.ok.mod.kin M.kp (thn (ha cpos pins s σ H _ I h) fun us s1 ⟨vs, H1, I1, r, hl, E, hw, q⟩ => ⟨I1.kIn, ?_⟩) he hpl
  obtain ⟨hp, g, d, tk, os⟩ := s1
  refine exc_make I1.kIn M.exc M.init (beq_iff_eq.mp M.fn) (fun h' a hz hm => ?_) (by show us.length ≤ _; rw [← r.length, sizeLine_eq]; omega)
  have hna : H1 a = none := I1.hok.fresh hz
  obtain ⟨t0, ht, _, _⟩ := hm.there
  have I2 : Inv X pins σ (upd H1 a (XI a C none)) ⟨h', g, d, tk, os⟩ := I1.laid (t' := tk) hm.keeps hz (xi_ok ht rfl rfl rfl rfl)
  have hq := q a hna
  have r2 : Vals (V.ref a :: vs) (Value.ref a :: us) := .cons rfl r
  have hlen : ((Value.ref a :: us) ++ []).length = ps.length := by
    rw [List.append_nil, ← r2.length]; exact F.len _ _ _ _ hq
  refine wpAny_call (codeAny_mono (F.run _ X.stack _ _ ⟨Value.ref a :: us, []⟩ (Value.ref a :: us) _ _ E0 (hr.make C us []) (I2.env0.make C us []) (by have := hb ⟨h', g, d, tk, os⟩ (Value.ref a :: us) I2.kIn hlen; rwa [List.append_nil] at this) r2 hq) fun r s' hq' => ?_)
  cases r with
  | error e => exact False.elim hq'
  | ok fl =>
    cases fl with
    | ret u =>
      obtain ⟨v, H2, hos, hbare, hun, hhok, rv, ev, dx, hx, hE⟩ := hq'
      subst ev
      refine ⟨rv, ?_⟩
      obtain ⟨⟨oe, ws, h1, h2, h3, h4, h5⟩, _, _⟩ := hhok _ _ hx
      have I3 : Inv X pins σ H2 s' := I2.call' (ch := []) hos hun hhok hbare fun b z => absurd z (by simp)
      refine ⟨a, oe, rfl, I3.kIn, h1, h2, ⟨ws, h4, h5⟩, hw pins H1 _ (upd H2 a (XO a C dx)) s' a C dx I1 ⟨hos, hbare, ?_, ?_, hz, upd_same, .inl ⟨oe, ws, h1, h2, h3, h4, ⟨hz, .inl rfl⟩, h5⟩⟩ hE⟩
      · have u1 : Un (frs X.stack) [] H1 (upd H1 a (XI a C none)) hp h' := Un.laid hm.keeps hz hna
        refine (u1.trans hun).trans ⟨fun b o q _ _ _ => q, fun b o q _ _ _ => ⟨o.slots, q⟩, fun b o q nb _ => ?_, fun b o q _ => ⟨o, q⟩, fun b xs q => ?_, fun b o xs q => ?_, fun b ps q => ⟨#[], ?_⟩⟩
        · rw [upd_ne (fun z => by rw [z, hx] at nb; cases nb)]; exact nb
        · rw [upd_ne (fun z => by rw [z, hx] at q; cases q)]; exact q
        · rw [upd_ne (fun z => by rw [z, hx] at q; cases q)]; exact q
        · rw [upd_ne (fun z => by rw [z, hx] at q; cases q), q]; simp
      · intro b o q
        by_cases hb : b = a
        · subst hb
          rw [upd_same] at q; cases q
          exact xo_ok h1 h2 h3 h4
        · rw [upd_ne hb] at q
          exact (hhok b o q).stay (fun c v _ r => r) (fun c r => by rw [upd_ne (fun z => by rw [z, hx] at r; cases r)]; exact r) fun c xs r => by
            rw [upd_ne (fun z => by rw [z, hx] at r; cases r)]; exact r
    | next => exact False.elim hq'
    | brk => exact False.elim hq'
    | cont => exact False.elim hq'
end
end L2

set_option Elab.async false
set_option linter.all false
set_option maxRecDepth 100000
/-! try .. except of an own class of error -/
namespace L2
open PySem PySem.Spec PyProof.Rows
section
variable {M : Model} {A : Around} {E : Value → Shared → Prop} {K : PySem.W.Frag} {C C' e : Addr}
/-- whether a clause meets it -/
theorem exc_matches {s : Shared} {oe : Obj} {b : Bool} {Q : Bool → Shared → Prop} (X : K.In s.heap) (q : excInI K C' = true) (hb : PySem.W.mroIn K C (.ref C') = some b) (he : s.heap.get? e = some oe) (hcl : oe.cls = .ref C) (hq : Q b s) :
    wpAny M A (excMatches (.ref e) (.ref C')) Q E s := by
  obtain ⟨bm, N, nm, qn, bs, hdct, sn, sub, ab, col, dd, k0, k1, k2, k3, k5, hC, T⟩ := exc_of_in X q
  have hcB : (Value.ref C' :: bm).contains (.type "BaseException") = true := by rw [List.contains_cons, T.hasType (by decide +kernel : bmV.contains (.type "BaseException") = true), Bool.or_true]
  have f := tc_notTuple
  have L := PySem.W.looks_mroIn (M := M) X hb
  obtain ⟨hp, g, d, t, os⟩ := s
  unfold excMatches
  repeat (first | (with_reducible refine wpAny_loadPart_at he ?_; rw [hcl]) | with_reducible refine wpAny_loadPart_at hC ?_ | (with_reducible refine wpAny_isSubtype_exc hC ?_; rw [hcB]) | with_reducible refine L.at ?_ | wp_step)
  cases b <;> (wp_walk; exact hq)
end
section
variable {X : Cx} {pins : List (Addr × Obj)} {σ : St} {H : Hp} {s : Shared}
/-- a name is taken away -/
theorem unbind_ok {A : Around} {E : Value → Shared → Prop} {i : Nat} {x : Str} {pos : Pos} {Q : Unit → Shared → Prop} (I : Inv X pins σ H s) (hN : X.N.Nodup) (hi : X.N[i]? = some x) (hx : X.env.scope.names.lookup x = some .local)
    (h : ∀ s', Inv X pins (σ.set i none) H s' → Q () s') : wpAny (model X.prog X.w) A (do bindName X.env x .none; unbindBehindTheSuite X.env x pos) Q E s := by
  have hcls : (X.env.scope.kind == .class || (X.env.scope.kind == .module && X.env.locals != X.env.globals)) = false := by rw [I.ok.kind]; rfl
  refine wpAny_bind (wpAny_bindName (store_ok (v := .non) (u := .none) I hN hi (.inl hx) rfl (fun s1 I1 => ?_) (.inr hx)))
  have hiσ : i < σ.length := by rw [I.len]; exact (List.getElem?_eq_some_iff.mp hi).1
  unfold unbindBehindTheSuite
  refine wpAny_onRaise ?_
  obtain ⟨m, hn, hl⟩ := id I1.loc
  have hv : m x = some .none := by
    obtain ⟨u, r, q⟩ := hl i x .non hi (by rw [List.getElem?_set_self hiσ]) (.inl hx)
    cases r
    rcases q with ⟨_, q⟩ | ⟨q, _⟩
    · exact q
    · have : X.env.kindOf x = some .local := hx
      rw [this] at q; rcases q with q | q <;> cases q
  have cne := I1.cne
  refine wpAny_unbindName_local hx hn hv hcls fun h' u hn' hs => ?_
  obtain ⟨oL, _, _, hoL, _⟩ := id hn
  have tracked : HOk X.prog X.w H h' := fun b ob e => by
    refine (I1.hok b ob e).stay (fun c w' hc q => (hs.2 c ?_).trans q) (fun _ q => q) fun _ _ q => q
    rintro rfl
    rcases hc with rfl | hc
    · rw [I1.free] at e; cases e
    · rw [I1.free] at hc; cases hc
  refine h _ ⟨I1.ok, I1.os, I1.bare, ⟨fun b o e n hb hx => ?_, fun b o e n hb hx => ?_, I1.base.free, fun b o e hx => ?_, I1.base.tups, I1.base.frzs, I1.base.tbls⟩, ⟨_, hn', fun j y v' e1 e2 e3 => ?_⟩, fun y c e => ?_, I1.free, I1.freeC, fun p hp => ?_, tracked, by simpa using I1.len⟩
  · exact (hs.2 b (Nat.ne_of_lt (Nat.lt_of_lt_of_le (Heap.lt_size e) I1.ok.above))).trans (I1.base.keep b o e n hb hx)
  · obtain ⟨sl, e1⟩ := I1.base.slot b o e n hb hx
    exact ⟨sl, (hs.2 b (Nat.ne_of_lt (Nat.lt_of_lt_of_le (Heap.lt_size e) I1.ok.above))).trans e1⟩
  · obtain ⟨o', e1⟩ := I1.base.there b o e hx
    exact ⟨o', (hs.2 b (Nat.ne_of_lt (Nat.lt_of_lt_of_le (Heap.lt_size e) I1.ok.above))).trans e1⟩
  · by_cases hj : j = i
    · subst hj
      rw [List.getElem?_set_self hiσ] at e2
      cases e2
    · rw [List.getElem?_set_ne (Ne.symm hj)] at e2
      obtain ⟨u', r', q⟩ := hl j y v' e1 (by rw [List.getElem?_set_ne (Ne.symm hj)]; exact e2) e3
      refine ⟨u', r', ?_⟩
      rcases q with ⟨k, e⟩ | ⟨k, c, e, z⟩
      · refine .inl ⟨k, ?_⟩
        have : y ≠ x := fun e => hj (nodup_ix hN e1 (e ▸ hi))
        simp [this, e]
      · exact .inr ⟨k, c, e, z.sameBut hs (cne y c e)⟩
  · obtain ⟨w', z⟩ := I1.cell y c e
    exact ⟨w', z.sameBut hs (cne y c e)⟩
  · obtain ⟨e, n, ne, nf, d⟩ := I1.pin p hp
    exact ⟨(hs.2 p.1 ne).trans e, n, ne, nf, d⟩
/-- within try: the pins are borne by every state -/
abbrev Cx.tryX (X : Cx) (pins : List (Addr × Obj)) (xe : Value → Shared → Prop) : Cx := { X with pn := X.pn ++ pins, xe := xe }
/-- within the suite of the clause -/
abbrev Cx.suite (X : Cx) (pins : List (Addr × Obj)) (a : Addr) : Cx := { X with pn := X.pn ++ pins, A := X.A.mark (some (.ref a)), calm := false, xe := fun _ _ => False }
theorem Cx.Ok.tryX (ok : X.Ok) {xe : Value → Shared → Prop} : (X.tryX pins xe).Ok :=
  ⟨ok.mod, ok.kind, ok.glob, ok.blt, ok.above, ok.inj, ok.has, ok.cab, ok.hd, ok.frames, ok.stk, ok.exf, ok.bs, ok.bsz, ok.noex, ok.exfs, ok.funs, ok.frf⟩
theorem Cx.Ok.untry {xe : Value → Shared → Prop} (ok : (X.tryX pins xe).Ok) : X.Ok :=
  ⟨ok.mod, ok.kind, ok.glob, ok.blt, ok.above, ok.inj, ok.has, ok.cab, ok.hd, ok.frames, ok.stk, ok.exf, ok.bs, ok.bsz, ok.noex, ok.exfs, ok.funs, ok.frf⟩
theorem Inv.tryX (I : Inv X pins σ H s) {xe : Value → Shared → Prop} : Inv (X.tryX pins xe) [] σ H s :=
  ⟨I.ok.tryX, I.os, I.bare, I.base, I.loc, I.cell, I.free, I.freeC, fun p hp => I.pin p (by simpa using hp), I.hok, I.len⟩
theorem Inv.tryX' {xe xe' : Value → Shared → Prop} {pins' : List (Addr × Obj)} (I : Inv (X.tryX pins xe) pins' σ H s) : Inv (X.tryX pins xe') [] σ H s :=
  ⟨(Cx.Ok.untry I.ok).tryX, I.os, I.bare, I.base, I.loc, I.cell, I.free, I.freeC, fun p hp => I.pin p (List.mem_append_left _ (by simpa using hp)), I.hok, I.len⟩
theorem Inv.suite {xe : Value → Shared → Prop} {a : Addr} (I : Inv (X.tryX pins xe) [] σ H s) : Inv (X.suite pins a) [] σ H s :=
  have ok := Cx.Ok.untry I.ok
  ⟨⟨ok.mod, ok.kind, ok.glob, ok.blt, ok.above, ok.inj, ok.has, ok.cab, (fun z => nomatch z), ok.frames, ok.stk, ok.exf, ok.bs, ok.bsz, ok.noex, ok.exfs, ok.funs, ok.frf⟩, I.os, I.bare, I.base, I.loc, I.cell, I.free, I.freeC, I.pin, I.hok, I.len⟩
theorem Inv.unsuite {a : Addr} (hc : X.calm = true → X.A.handled = none) (I : Inv (X.suite pins a) [] σ H s) : Inv X pins σ H s :=
  have ok := I.ok
  ⟨⟨ok.mod, ok.kind, ok.glob, ok.blt, ok.above, ok.inj, ok.has, ok.cab, hc, ok.frames, ok.stk, ok.exf, ok.bs, ok.bsz, ok.noex, ok.exfs, ok.funs, ok.frf⟩, I.os, I.bare, I.base, I.loc, I.cell, I.free, I.freeC, fun p hp => I.pin p (by simpa using hp), I.hok, I.len⟩
/-- what a caught exception is, at the clause -/
structure Got (X : Cx) (pins : List (Addr × Obj)) (σ : St) (H' : Hp) (s' : Shared) (E : XK) (a C dx : Addr) : Prop where
  fly : ∃ xe Hb sb, Inv (X.tryX pins xe) [] σ Hb sb ∧ Fly X.prog X.w (frs X.stack) Hb sb H' s' a C dx ∧ XT (Ch sb.heap.objs.size H' a) s'.heap a (.ref C) (some dx) .none
  E : E (.ref C) (some a) H'
theorem try_core {body : List Stmt} {hd : ExceptHandler} {hs : List ExceptHandler} {pos : Pos} {D : Ends} (I : Inv X pins σ H s) (hst : X.stack = X.env :: X.outer) (hf : X.env.frame = some X.env.locals) (E : XK)
    (hb : ∀ xe, Wish (X.tryX pins xe) σ E → wpAny (model X.prog X.w) X.A (execs body X.env) (SP (X.tryX pins xe) [] D) xe s)
    (hh : ∀ H' s' a C dx, Got X pins σ H' s' E a C dx → Inv (X.suite pins a) [] σ H' s' → wpAny (model X.prog X.w) X.A (handleBy (.ref a) X.env (hd :: hs)) (SP X pins D) X.xe s') :
    wpAny (model X.prog X.w) X.A (exec (.Try body (hd :: hs) [] [] pos) X.env) (SP X pins D) X.xe s := by
  refine wpAny_Try_except (wpAny_mono (hb (fun e s' => ∃ Hb sb H' a C dx, e = .ref a ∧ Inv (X.tryX pins fun _ _ => False) [] σ Hb sb ∧ Fly X.prog X.w (frs X.stack) Hb sb H' s' a C dx ∧ E (.ref C) (some a) H') fun pins' Hb sb H' s' a C dx I1 F hE => ⟨Hb, sb, H', a, C, dx, rfl, I1.tryX', F, hE⟩) (fun f s1 hf => ?_) fun e s1 he => ?_)
  · have back : ∀ {σ' : St} {H' : Hp}, Inv (X.tryX pins (fun e s' => ∃ Hb sb H' a C dx, e = .ref a ∧ Inv (X.tryX pins fun _ _ => False) [] σ Hb sb ∧ Fly X.prog X.w (frs X.stack) Hb sb H' s' a C dx ∧ E (.ref C) (some a) H')) [] σ' H' s1 → Inv X pins σ' H' s1 := fun I => I.suite (a := 0) |>.unsuite (Cx.Ok.untry I.ok).hd
    cases f with
    | next => obtain ⟨σ', H', I', q⟩ := hf; exact wpAny_execs_nil ⟨σ', H', back I', q⟩
    | brk => obtain ⟨σ', H', I', q⟩ := hf; exact ⟨σ', H', back I', q⟩
    | cont => obtain ⟨σ', H', I', q⟩ := hf; exact ⟨σ', H', back I', q⟩
    | ret u => obtain ⟨v, σ', H', I', r, q⟩ := hf; exact ⟨v, σ', H', back I', r, q⟩
  · obtain ⟨Hb, sb, H', a, C, dx, rfl, I1, F, hE⟩ := he
    have I2 := F.inv (X := X.tryX pins fun _ _ => False) I1
    have fr : X.A.frames = some (X.env :: X.outer) := by rw [← hst]; exact I.ok.frames
    have ff : s1.heap.FunFrames X.base (X.env :: X.outer) := by rw [← hst]; exact I2.stack
    refine noteX (ch := Ch sb.heap.objs.size H' a) fr ff hf (Fly.fresh (X := X) F) F.xf fun h1 n1 x1 f1 => ?_
    refine flightX (s := { s1 with heap := h1 }) f1 x1 fun h2 n2 x2 f2 => ?_
    have nt := n1.trans n2
    rw [← hst] at nt
    have I3 : Inv (X.tryX pins fun _ _ => False) [] σ H' { s1 with heap := h2 } := Fly.noted (X := X.tryX pins fun _ _ => False) F I1 nt x2
    refine hh H' _ a C dx ⟨⟨_, Hb, sb, I1, ?_, x2⟩, hE⟩ I3.suite
    · refine ⟨F.os, F.bare, ?_, I3.hok, F.new, F.ob, .inr x2⟩
      have u2 : Un (frs X.stack) (chL (Ch sb.heap.objs.size H' a) s1.heap) H' H' s1.heap h2 := un_nt nt
      refine ⟨fun b o e n hb hx => ?_, fun b o e n hb hx => ?_, F.un.free, fun b o e hx => ?_, F.un.tups, F.un.frzs, F.un.tbls⟩
      · exact nt.keep b o (F.un.keep b o e n hb hx) hb fun z => absurd (Nat.lt_of_lt_of_le (Heap.lt_size e) z.1) (Nat.lt_irrefl _)
      · obtain ⟨sl, e1⟩ := F.un.slot b o e n hb hx
        obtain ⟨sl2, e2⟩ := nt.slot b _ e1 hb
        exact ⟨sl2, e2⟩
      · obtain ⟨o1, e1⟩ := F.un.there b o e hx
        exact nt.there b o1 e1
theorem clause_no {x : Str} {np hpos : Pos} {C' a C dx : Addr} {nm : Option Str} {suite : List Stmt} {hs : List ExceptHandler} {D : Ends} {E : XK} {H' : Hp} {s' : Shared} {Q : Flow → Shared → Prop} (hg : Gl X x) (hm : X.mg x = some (.ref C')) (q : excInI X.K C' = true) (hsub : PySem.W.mroIn X.K C (.ref C') = some false)
    (G : Got X pins σ H' s' E a C dx) (I2 : Inv (X.suite pins a) [] σ H' s') (h : wpAny (model X.prog X.w) X.A (handleBy (.ref a) X.env hs) Q X.xe s') (hd : (x == ("__debug__" : Str)) = false := by decide) :
    wpAny (model X.prog X.w) X.A (handleBy (.ref a) X.env (.ExceptHandler (some (.Name x np)) nm suite hpos :: hs)) Q X.xe s' := by
  obtain ⟨⟨xe, Hb, sb, I1, F, xt⟩, hE⟩ := G
  obtain ⟨oe, vs, h1, h2, _⟩ := id xt
  refine wpAny_handleBy_cons (codeAny_handlers_test (ld_glob (X := X.suite pins a) I2 hg hm ?_ hd)) (by intro q; cases q)
  exact exc_matches I2.kIn q hsub h1 h2 h
theorem clause1 {x n : Str} {i : Nat} {np hpos : Pos} {C' a C dx : Addr} {b0 : Stmt} {suite : List Stmt} {hs : List ExceptHandler} {D : Ends} {E : XK} {H' : Hp} {s' : Shared} (hst : X.stack = X.env :: X.outer) (hc : X.calm = true → X.A.handled = none) (hN : X.N.Nodup) (hi : X.N[i]? = some n) (hx : X.env.scope.names.lookup n = some .local) (hg : Gl X x) (hm : X.mg x = some (.ref C')) (q : excInI X.K C' = true) (hsub : PySem.W.mroIn X.K C (.ref C') = some true)
    (G : Got X pins σ H' s' E a C dx) (I2 : Inv (X.suite pins a) [] σ H' s') (h : ∀ s4, Inv (X.suite pins a) [] (σ.set i (some (.ref a))) H' s4 → wpAny (model X.prog X.w) (X.suite pins a).A (execs (b0 :: suite) X.env)
      (SP (X.suite pins a) [] { nx := fun σ' H2 => D.nx (σ'.set i none) H2, rt := D.rt, bk := fun σ' H2 => D.bk (σ'.set i none) H2, ct := fun σ' H2 => D.ct (σ'.set i none) H2 }) (fun _ _ => False) s4) (hd : (x == ("__debug__" : Str)) = false := by decide) :
    wpAny (model X.prog X.w) X.A (handleBy (.ref a) X.env (.ExceptHandler (some (.Name x np)) (some n) (b0 :: suite) hpos :: hs)) (SP X pins D) X.xe s' := by
  obtain ⟨⟨xe, Hb, sb, I1, F, xt⟩, hE⟩ := G
  obtain ⟨oe, vs, h1, h2, _⟩ := id xt
  have I0 := F.inv (X := X.tryX pins xe) I1
  refine wpAny_handleBy_cons (codeAny_handlers_test (ld_glob (X := X.suite pins a) I2 hg hm ?_ hd)) (by intro q; cases q)
  refine exc_matches I2.kIn q hsub h1 h2 (codeAny_handlers_suite_as ?_)
  refine flightX (l := X.stack) I0.stack xt fun h3 n3 x3 f3 => ?_
  have I4 := (Fly.noted (X := X.tryX pins xe) F I1 n3 x3).suite (a := a)
  refine store_ok (X := X.suite pins a) (v := .ref a) I4 hN hi (.inl hx) rfl (fun s5 I5 => ?_) (.inr hx)
  refine wpAny_mono (h s5 I5) (fun f s6 h6 => ?_) fun _ _ z => z.elim
  show wpAny _ _ (do bindName X.env n .none; unbindBehindTheSuite X.env n hpos) _ _ _
  cases f with
  | next => obtain ⟨σ', H2, I6, q⟩ := h6; exact unbind_ok (I6.unsuite hc) hN hi hx fun s7 I7 => ⟨_, H2, I7, q⟩
  | brk => obtain ⟨σ', H2, I6, q⟩ := h6; exact unbind_ok (I6.unsuite hc) hN hi hx fun s7 I7 => ⟨_, H2, I7, q⟩
  | cont => obtain ⟨σ', H2, I6, q⟩ := h6; exact unbind_ok (I6.unsuite hc) hN hi hx fun s7 I7 => ⟨_, H2, I7, q⟩
  | ret u => obtain ⟨v, σ', H2, I6, r, q⟩ := h6; exact unbind_ok (I6.unsuite hc) hN hi hx fun s7 I7 => ⟨v, _, H2, I7, r, q⟩
end
end L2

set_option Elab.async false
set_option linter.all false
set_option maxRecDepth 100000
/-! isinstance of an error, its fields read -/
namespace L2
open PySem PySem.Spec PyProof.Rows Builtin Builtin.ObjectAttr
/-- its class can be told -/
structure XIs (K : PySem.W.Frag) (C : Addr) : Prop extends XCls K C where
  ha : PySem.W.findIn K (.ref C) "__class__" = some (some (.builtin "object.__class__"))
  hn : PySem.W.specialIn K (.builtin "object.__class__") "__get__" = some (some (.builtin "getset_descriptor.__get__"))
  htk : PySem.W.takesIn K (.builtin "object.__class__") = some true
section
variable {prog : Program} {w : World} {A : Around} {E : Value → Shared → Prop} {s : Shared} {K : PySem.W.Frag} {x C : Addr}
theorem xclass {ox od : Obj} {Q : Option Value → Shared → Prop} (c : XIs K C) (X : K.In s.heap) (I : PySem.W.InstAt s.heap x ox C (some od)) (h : Q (some (.ref C)) { s with toks := s.toks + 1 }) : wpAny (model prog w) A (getAttr? (.ref x) "__class__") Q E s := by
  obtain ⟨cd, hc, ho⟩ := PySem.W.any_some c.ov
  have ne : cd.mro.isEmpty = false := by cases q : cd.mro with | nil => rw [q] at ho; cases ho | cons _ _ => rfl
  have hm : PySem.W.mroIn K C (.type "object") = some true := by unfold PySem.W.mroIn; rw [hc, Option.bind_some, if_neg (by rw [ne]; decide), over_has (by decide +kernel) ho]
  have hf : PySem.W.findObj K C (some od) "__class__" = some (.bind (.builtin "getset_descriptor.__get__") (.builtin "object.__class__")) := PySem.W.findObj_data (by obtain ⟨cd, hc, _⟩ := PySem.W.any_some c.hd; rw [hc]; rfl) c.ha c.hn c.htk
  obtain ⟨hp, g, d, t, os⟩ := s
  have L0 := I.type (M := model prog w)
  have L1 := PySem.W.looks_findIn (M := model prog w) X c.ga
  have L2' := PySem.W.looks_findIn (M := model prog w) X c.gh
  have L3 := PySem.W.looks_find (M := model prog w) X I hf
  have f3 := PySem.F.attr_ValueError.ga.bind (.ref x)
  have sub : PySem.W.Looks (model prog w) hp (isInstance (.ref x) (.type "BaseException")) true := c.toXCls.sub X I (by decide +kernel)
  have hx2 : (Value.builtin "BaseException.__getattribute__" == Value.builtin "object.__getattribute__") = false := by decide +kernel
  have hx1 : (onTheHeap (Value.ref C) && Value.builtin "BaseException.__getattribute__" == Value.builtin "object.__getattribute__") = false := by rw [hx2]; rfl
  unfold getAttr? getAttrBy? getAttrBy
  refine wpAny_bind (wpAny_mkText (wpAny_bind (wpAny_attempt (wpAny_holding (wpAny_bind (L0.at (wpAny_bind (L1.at ?_))))))))
  dsimp only
  rw [hx1]
  show wpAny _ _ (getAttrByItsOwn _ _ _ _ _ _) _ _ _
  unfold getAttrByItsOwn
  refine wpAny_bind (show wpAny _ _ (typeLookup (.ref C) "__getattr__") _ _ _ from L2'.at ?_)
  refine wpAny_bind (wpAny_attempt (wpAny_holding ?_))
  unfold callGetattribute
  show wpAny _ _ (boundAndCalled _ _ _) _ _ _
  unfold boundAndCalled
  rw [f3]
  refine wpAny_bind (wpAny_pure ?_)
  have hk : builtinKind "BaseException.__getattribute__" = some .slot := by decide +kernel
  have hsplit : splitId "BaseException.__getattribute__" = some ("BaseException", "__getattribute__") := by decide +kernel
  refine wpAny_call (codeAny_call_builtin PySem.F.attr_ValueError.ga.plain PySem.F.entry_bexc_ga (@PySem.W.check_slot (model prog w) _ _ _ _ "BaseException" "__getattribute__" (.ref x) [.str "__class__" t] [] _ hk hsplit sub (PySem.F.args_bexc_ga _ _) ?_))
  unfold Builtin.«object.__getattribute__»
  refine wpAny_bind (wpAny_pure ?_)
  refine wpAny_bind (wpAny_pure (wpAny_bind (L0.at (wpAny_bind (L3.at ?_)))))
  show wpAny _ _ (bindTo _ _ _ _) _ _ _
  unfold bindTo
  refine wpAny_bind (wpAny_holding (wpAny_call (PySem.W.class_get (s := ⟨hp, g, d, t + 1, os⟩) (ox := ox) (od := some od) X I hm ?_)))
  refine wpAny_pure ?_
  show wpAny _ _ (handedOut (.ref C)) _ _ _
  rw [PySem.W.handedOut_of rfl]
  exact wpAny_pure (wpAny_pure h)
theorem kitx_exc {ox od : Obj} (c : XIs K C) : PySem.W.KitX K (.ref x) (.ref C) (fun h => PySem.W.InstAt h x ox C (some od)) where
  ty := fun _ _ _ I => I.type
  it := fun _ _ X _ => by
    obtain ⟨cdD, hcD, _⟩ := PySem.W.any_some c.hd
    unfold PySem.W.clsIn at hcD
    split at hcD
    · rename_i c' d' cd' sl' ho
      intro A' Q' E' s' k q
      unfold isType loadHead
      exact wpAny_bind (wpAny_loadPart (k _ _ (X _ _ ho)) (wpAny_pure q))
    · cases hcD
  ne := fun h tp dd its n sl X htp => by
    obtain ⟨cdD, hcD, _⟩ := PySem.W.any_some c.hd
    refine Bool.eq_false_iff.mpr fun q => ?_
    have e : C = tp := Value.ref.inj (beq_iff_eq.mp q)
    subst e
    unfold PySem.W.clsIn at hcD
    split at hcD
    · rename_i c' d' cd' sl' ho
      have z := (X _ _ ho).symm.trans htp
      cases z
    · cases hcD
  ca := fun X I k => xclass c X I k
end
section
variable {X : Cx} {pins : List (Addr × Obj)} {σ : St} {H : Hp} {s : Shared} {a C dx : Addr} {fs : List (Str × V)}
theorem exc_inst (I : Inv X pins σ H s) (e : H a = some (XO a C dx)) (ed : H dx = some (.xd fs)) : ∃ ox od mA, PySem.W.InstAt s.heap a ox C (some od) ∧ ox.cls = .ref C ∧ PySem.W.notCls ox = true ∧ ox.dict = some dx ∧ s.heap.get? a = some ox ∧ s.heap.Ns1 dx mA ∧ ∀ f, RelO (fs.lookup f) (mA f) := by
  obtain ⟨⟨oe, vs, h1, h2, h3, h4⟩, _, _⟩ := I.hok _ _ e
  obtain ⟨mA, hns, r⟩ := I.hok _ _ ed
  obtain ⟨od, ho, hl⟩ := lookIn_ns hns
  have hnc : PySem.W.notCls oe = true := by unfold PySem.W.notCls; rw [h4]
  exact ⟨oe, od, mA, ⟨h1, h2, hnc, by rw [h3]; exact ho⟩, h2, hnc, h3, h1, hns, r⟩
/-- e.f of an error -/
def tXFld (K : PySem.W.Frag) (ta : TE) (f : Str) : TE := fun σ H Q => ta σ H fun x H1 => ∃ a C dx fs v, x = .ref a ∧ H1 a = some (XO a C dx) ∧ H1 dx = some (.xd fs) ∧ XCls K C ∧ NoAttr K C f ∧ fs.lookup f = some v ∧ Q v H1
theorem pe_xfld {e : Expr} {f : Str} {ta : TE} {pos : Pos} (he : PE X e ta) (hb : attributeBase e f X.env (eval e X.env) = eval e X.env) : PE X (.Attribute e f pos) (tXFld X.K ta f) := by
  intro pins s σ H Q I h
  refine attr_of hb (thn (he pins s σ H _ I h) fun u s1 ⟨x, H1, I1, rx, a, C, dx, fs, v, ex, ea, ed, c, n, l, q⟩ => ?_)
  subst ex
  obtain rfl : u = Value.ref a := rx
  obtain ⟨ox, od, mA, J, h2, h3, h4, h5, h6, r⟩ := exc_inst I1 ea ed
  obtain ⟨u', hu, ru⟩ := RelO.some_of (v := v) (o := mA f) (by rw [← l]; exact r f)
  exact xget I1.kIn c n h5 h2 h3 h4 h6 hu (handed_of ru) ⟨v, H1, I1.tok _, ru, q⟩
/-- isinstance(e, C') of an error -/
def rIsX (K : PySem.W.Frag) : List V → Hp → VK → Prop := fun xs H Q => ∃ a C dx fs C' b, xs = [.ref a, .ref C'] ∧ H a = some (XO a C dx) ∧ H dx = some (.xd fs) ∧ XIs K C ∧ PySem.W.kitOne K (.ref C) (.ref C') = some b ∧ Q (.bl b) H
theorem cr_isx : CallR X (.builtin "isinstance") (rIsX X.K) := by
  intro pins s σ H vs us Q I r h
  obtain ⟨a, C, dx, fs, C', b, rfl, ea, ed, c, e, q⟩ := h
  cases r with
  | cons rx r2 =>
    cases r2 with
    | cons ry r3 =>
      cases r3
      cases (show _ = Value.ref a from rx)
      cases (show _ = Value.ref C' from ry)
      obtain ⟨ox, od, mA, J, _⟩ := exc_inst I ea ed
      exact PySem.W.kia_one (kitx_exc c) I.kIn J e (fun z => nomatch z) fun tk => ⟨.bl b, H, I.tok tk, rfl, q⟩
/-- isinstance(e, (C1, C2, ..)) of an error -/
def rIsT (K : PySem.W.Frag) : List V → Hp → VK → Prop := fun xs H Q => ∃ (a C dx : Addr) (fs : List (Str × V)) (p : Addr) (Cs : List Addr) (b : Bool), xs = [.ref a, .ref p] ∧ H a = some (XO a C dx) ∧ H dx = some (.xd fs) ∧ XIs K C ∧ H p = some (.tup (Cs.map V.ref)) ∧ PySem.W.kitAny K (.ref C) (Cs.map Value.ref) = some b ∧ Q (.bl b) H
theorem vals_refs : ∀ {Cs : List Addr} {us : List Value}, Vals (Cs.map V.ref) us → us = Cs.map Value.ref
  | [], _, h => by cases h; rfl
  | _ :: _, _, h => by
    cases h with
    | cons r t => rw [List.map_cons, vals_refs t]; cases (show _ = Value.ref _ from r); rfl
theorem cr_ist : CallR X (.builtin "isinstance") (rIsT X.K) := by
  intro pins s σ H vs us Q I r h
  obtain ⟨a, C, dx, fs, p, Cs, b, rfl, ea, ed, c, ep, e, q⟩ := h
  cases r with
  | cons rx r2 =>
    cases r2 with
    | cons ry r3 =>
      cases r3
      cases (show _ = Value.ref a from rx)
      cases (show _ = Value.ref p from ry)
      obtain ⟨ox, od, mA, J, _⟩ := exc_inst I ea ed
      obtain ⟨_, its, rv, o, h1, h2, n, h3, h4⟩ := I.hok _ _ ep
      rw [vals_refs rv] at h3
      obtain ⟨oc, od', oda, osl⟩ := o
      dsimp only at h2 h3
      subst h2 h3
      exact PySem.W.kia_tup (kitx_exc c) I.kIn J h1 e (fun z => nomatch z) fun tk => ⟨.bl b, H, I.tok tk, rfl, q⟩
end
end L2

set_option Elab.async false
set_option linter.all false
set_option maxRecDepth 100000
/-! THE DATA LAYER (L3): values as trees, objects that change in a list by number; expressions and statements as functions. -/
namespace L3
open PySem PySem.Spec PyProof.Rows L2

/-- a value: tuples are trees, lists and dicts stand in the store by number; fls: a list that nobody changes -/
inductive D where
  | non | bl (b : Bool) | int (i : Int) | str (x : Str) | tup (ds : List D) | fls (ds : List D) | ref (n : Nat)
/-- an object that may change -/
inductive MO where
  | lst (ds : List D) | dic (kvs : List (Key × D)) | fdc (kvs : List (Key × D)) | ins (nf : List Str) (fs : List (Str × D)) | exc (cn : Str) (fs : List (Str × D))
abbrev M := List MO

/-- a list that nobody changes: frozen, or an object of the module -/
def SqF (K : PySem.W.Frag) (H : Hp) (a : Addr) (xs : List V) : Prop :=
  (∃ o, H a = some (.frz o (.lst xs))) ∨
    ∃ (o : Obj) (its : Array Value) (n : Nat), K.lookup a = some o ∧ o.cls = .type "list" ∧ o.dict = none ∧ o.data = .seq its n ∧ its.size ≤ sizeLine ∧ Vals xs its.toList
theorem SqF.sq {K : PySem.W.Frag} {H : Hp} {a : Addr} {xs : List V} (h : SqF K H a xs) : SqL K H a xs := by
  rcases h with h | h
  · exact .inl (.inr h)
  · exact .inr h
mutual
inductive RV (K : PySem.W.Frag) (ι : List Addr) (H : Hp) : D → V → Prop where
  | non : RV K ι H .non .non
  | bl (b : Bool) : RV K ι H (.bl b) (.bl b)
  | int (i : Int) : RV K ι H (.int i) (.int i)
  | str (x : Str) : RV K ι H (.str x) (.str x)
  | tup {a : Addr} {vs : List V} {ds : List D} : SqT K H a vs → RVs K ι H ds vs → RV K ι H (.tup ds) (.ref a)
  | fls {a : Addr} {vs : List V} {ds : List D} : SqF K H a vs → RVs K ι H ds vs → RV K ι H (.fls ds) (.ref a)
  | ref {i : Nat} {a : Addr} : ι[i]? = some a → RV K ι H (.ref i) (.ref a)
inductive RVs (K : PySem.W.Frag) (ι : List Addr) (H : Hp) : List D → List V → Prop where
  | nil : RVs K ι H [] []
  | cons {d : D} {v : V} {ds : List D} {vs : List V} : RV K ι H d v → RVs K ι H ds vs → RVs K ι H (d :: ds) (v :: vs)
end
section
variable {K : PySem.W.Frag} {ι ι' : List Addr} {H H' : Hp}
theorem RVs.length : ∀ {ds : List D} {vs : List V}, RVs K ι H ds vs → ds.length = vs.length
  | [], _, h => by cases h; rfl
  | _ :: _, _, h => by
    cases h with
    | cons _ t => exact congrArg (· + 1) (RVs.length t)
theorem RVs.append : ∀ {ds es : List D} {vs ws : List V}, RVs K ι H ds vs → RVs K ι H es ws → RVs K ι H (ds ++ es) (vs ++ ws)
  | [], _, _, _, h, g => by cases h; exact g
  | _ :: _, _, _, _, h, g => by
    cases h with
    | cons r t => exact .cons r (RVs.append t g)
theorem RVs.get : ∀ {ds : List D} {vs : List V} {i : Nat} {d : D}, RVs K ι H ds vs → ds[i]? = some d → ∃ v, vs[i]? = some v ∧ RV K ι H d v
  | [], _, i, _, _, e => by simp at e
  | _ :: _, _, 0, _, h, e => by
    cases h with
    | cons r t => simp at e; subst e; exact ⟨_, rfl, r⟩
  | _ :: _, _, i + 1, d, h, e => by
    cases h with
    | cons r t =>
      obtain ⟨v, h1, h2⟩ := RVs.get (i := i) t (by simpa using e)
      exact ⟨v, by simpa using h1, h2⟩
theorem RVs.take : ∀ {ds : List D} {vs : List V} (n : Nat), RVs K ι H ds vs → RVs K ι H (ds.take n) (vs.take n)
  | _, _, 0, _ => .nil
  | [], _, _ + 1, h => by cases h; exact .nil
  | _ :: _, _, n + 1, h => by
    cases h with
    | cons r t => exact .cons r (RVs.take n t)
theorem RVs.drop : ∀ {ds : List D} {vs : List V} (n : Nat), RVs K ι H ds vs → RVs K ι H (ds.drop n) (vs.drop n)
  | _, _, 0, h => h
  | [], _, _ + 1, h => by cases h; exact .nil
  | _ :: _, _, n + 1, h => by
    cases h with
    | cons r t => exact RVs.drop n t
theorem RVs.ints : ∀ {ns : List Int} {vs : List V}, RVs K ι H (ns.map D.int) vs → vs = ns.map V.int
  | [], _, h => by cases h; rfl
  | _ :: _, _, h => by
    cases h with
    | cons r t => cases r; rw [List.map_cons, RVs.ints t]
theorem RVs.ofInts : ∀ (ns : List Int), RVs K ι H (ns.map D.int) (ns.map V.int)
  | [] => .nil
  | n :: ns => .cons (.int n) (RVs.ofInts ns)
/-- pairs of a dict -/
def RKV (K : PySem.W.Frag) (ι : List Addr) (H : Hp) : List (Key × D) → List (Key × V) → Prop
  | [], [] => True
  | p :: ps, q :: qs => p.1 = q.1 ∧ RV K ι H p.2 q.2 ∧ RKV K ι H ps qs
  | _, _ => False
def RFs (K : PySem.W.Frag) (ι : List Addr) (H : Hp) : List (Str × D) → List (Str × V) → Prop
  | [], [] => True
  | p :: ps, q :: qs => p.1 = q.1 ∧ RV K ι H p.2 q.2 ∧ RFs K ι H ps qs
  | _, _ => False
def RO (K : PySem.W.Frag) (ι : List Addr) (H : Hp) (a : Addr) : MO → Prop
  | .lst ds => ∃ vs, H a = some (.lst vs) ∧ RVs K ι H ds vs
  | .dic kvs => ∃ ws, H a = some (.dK ws) ∧ RKV K ι H kvs ws
  | .fdc kvs => ∃ (o : Obj) (ws : List (Key × V)), H a = some (.frz o (.dK ws)) ∧ RKV K ι H kvs ws
  | .ins nf fs => ∃ (C dx : Addr) (vs : List (Str × V)), H a = some (.ins C dx vs) ∧ (Cls K C ∧ ∀ f ∈ nf, NoAttr K C f) ∧ RFs K ι H fs vs
  | .exc cn fs => ∃ (C dx : Addr) (vs : List (Str × V)), H a = some (XO a C dx) ∧ H dx = some (.xd vs) ∧ PySem.W.nsIn K mainGlobals cn = some (some (.ref C)) ∧ RFs K ι H fs vs
structure RM (K : PySem.W.Frag) (ι : List Addr) (m : M) (H : Hp) : Prop where
  len : ι.length = m.length
  nd : ι.Nodup
  ob : ∀ (i : Nat) (o : MO) (a : Addr), m[i]? = some o → ι[i]? = some a → RO K ι H a o

/-- the store may grow; what stands outside of it stays -/
structure Gr (ι ι' : List Addr) (H H' : Hp) : Prop where
  pre : ι <+: ι'
  new : ∀ a, a ∈ ι' → a ∉ ι → H a = none
  keep : ∀ a o, H a = some o → a ∉ ι → H' a = some o
  lock : ∀ a o u, H a = some (.frz o u) → H' a = some (.frz o u)
theorem Gr.refl : Gr ι ι H H := ⟨List.prefix_refl _, fun _ h n => absurd h n, fun _ _ h _ => h, fun _ _ _ h => h⟩
theorem Gr.trans {ι1 ι2 ι3 : List Addr} {H1 H2 H3 : Hp} (g : Gr ι1 ι2 H1 H2) (g' : Gr ι2 ι3 H2 H3) : Gr ι1 ι3 H1 H3 where
  pre := g.pre.trans g'.pre
  new := fun a h n => by
    by_cases q : a ∈ ι2
    · exact g.new a q n
    · have e := g'.new a h q
      cases z : H1 a with
      | none => rfl
      | some o => rw [g.keep a o z n] at e; cases e
  keep := fun a o h n => by
    have q : a ∉ ι2 := fun q => by rw [g.new a q n] at h; cases h
    exact g'.keep a o (g.keep a o h n) q
  lock := fun a o u h => g'.lock a o u (g.lock a o u h)
theorem Gr.at (g : Gr ι ι' H H') {i : Nat} {a : Addr} (e : ι[i]? = some a) : ι'[i]? = some a := by
  obtain ⟨t, rfl⟩ := g.pre
  rw [List.getElem?_append_left (List.getElem?_eq_some_iff.mp e).1]; exact e

theorem RM.kind {m : M} (r : RM K ι m H) {a : Addr} (h : a ∈ ι) : (∃ vs, H a = some (.lst vs)) ∨ (∃ ws, H a = some (.dK ws)) ∨ (∃ o ws, H a = some (.frz o (.dK ws))) ∨ (∃ C dx vs, H a = some (.ins C dx vs)) ∨ ∃ C dx, H a = some (XO a C dx) := by
  obtain ⟨i, hi⟩ := List.mem_iff_getElem?.mp h
  have hl : i < m.length := by rw [← r.len]; exact (List.getElem?_eq_some_iff.mp hi).1
  have := r.ob i m[i] a (List.getElem?_eq_getElem hl) hi
  cases z : m[i] with
  | lst ds => rw [z] at this; obtain ⟨vs, h, _⟩ := this; exact .inl ⟨vs, h⟩
  | dic kvs => rw [z] at this; obtain ⟨vs, h, _⟩ := this; exact .inr (.inl ⟨vs, h⟩)
  | fdc kvs => rw [z] at this; obtain ⟨o, vs, h, _⟩ := this; exact .inr (.inr (.inl ⟨o, vs, h⟩))
  | ins nf fs => rw [z] at this; obtain ⟨C, dx, vs, h, _⟩ := this; exact .inr (.inr (.inr (.inl ⟨C, dx, vs, h⟩)))
  | exc cn fs => rw [z] at this; obtain ⟨C, dx, vs, h, _⟩ := this; exact .inr (.inr (.inr (.inr ⟨C, dx, h⟩)))
theorem RM.tup_notin {m : M} (r : RM K ι m H) {a : Addr} {xs : List V} (h : H a = some (.tup xs)) : a ∉ ι := fun q => by
  rcases r.kind q with ⟨_, e⟩ | ⟨_, e⟩ | ⟨_, _, e⟩ | ⟨_, _, _, e⟩ | ⟨_, _, e⟩ <;> rw [h] at e <;> cases e
theorem RM.frz_notin {m : M} (r : RM K ι m H) {a : Addr} {o : Obj} {u : HO} (h : H a = some (.frz o u)) (hu : ∀ ws, u ≠ .dK ws := by intro _ z; cases z) : a ∉ ι := fun q => by
  rcases r.kind q with ⟨_, e⟩ | ⟨_, e⟩ | ⟨_, _, e⟩ | ⟨_, _, _, e⟩ | ⟨_, _, e⟩ <;> rw [h] at e <;> cases e
  exact hu _ rfl
theorem RM.none_notin {m : M} (r : RM K ι m H) {a : Addr} (h : H a = none) : a ∉ ι := fun q => by
  rcases r.kind q with ⟨_, e⟩ | ⟨_, e⟩ | ⟨_, _, e⟩ | ⟨_, _, _, e⟩ | ⟨_, _, e⟩ <;> rw [h] at e <;> cases e
theorem RM.xd_notin {m : M} (r : RM K ι m H) {a : Addr} {xs : List (Str × V)} (h : H a = some (.xd xs)) : a ∉ ι := fun q => by
  rcases r.kind q with ⟨_, e⟩ | ⟨_, e⟩ | ⟨_, _, e⟩ | ⟨_, _, _, e⟩ | ⟨_, _, e⟩ <;> rw [h] at e <;> cases e
theorem SqT.gr {m : M} (r : RM K ι m H) (g : Gr ι ι' H H') {a : Addr} {xs : List V} (h : SqT K H a xs) : SqT K H' a xs := by
  rcases h with (h | ⟨o, h⟩) | h
  · exact .inl (.inl (g.keep _ _ h (r.tup_notin h)))
  · exact .inl (.inr ⟨o, g.keep _ _ h (r.frz_notin h)⟩)
  · exact .inr h
theorem SqF.gr {m : M} (r : RM K ι m H) (g : Gr ι ι' H H') {a : Addr} {xs : List V} (h : SqF K H a xs) : SqF K H' a xs := by
  rcases h with ⟨o, h⟩ | h
  · exact .inl ⟨o, g.keep _ _ h (r.frz_notin h)⟩
  · exact .inr h
mutual
theorem RV.gr {m : M} (r : RM K ι m H) (g : Gr ι ι' H H') : ∀ {d : D} {v : V}, RV K ι H d v → RV K ι' H' d v
  | _, _, .non => .non
  | _, _, .bl b => .bl b
  | _, _, .int b => .int b
  | _, _, .str b => .str b
  | _, _, .tup h t => .tup (SqT.gr r g h) (RVs.gr r g t)
  | _, _, .fls h t => .fls (SqF.gr r g h) (RVs.gr r g t)
  | _, _, .ref h => .ref (g.at h)
theorem RVs.gr {m : M} (r : RM K ι m H) (g : Gr ι ι' H H') : ∀ {ds : List D} {vs : List V}, RVs K ι H ds vs → RVs K ι' H' ds vs
  | _, _, .nil => .nil
  | _, _, .cons h t => .cons (RV.gr r g h) (RVs.gr r g t)
end
theorem RKV.gr {m : M} (r : RM K ι m H) (g : Gr ι ι' H H') : ∀ {ps : List (Key × D)} {qs : List (Key × V)}, RKV K ι H ps qs → RKV K ι' H' ps qs
  | [], [], _ => trivial
  | [], _ :: _, h => h.elim
  | _ :: _, [], h => h.elim
  | _ :: _, _ :: _, ⟨h1, h2, h3⟩ => ⟨h1, h2.gr r g, RKV.gr r g h3⟩

theorem RFs.gr {m : M} (r : RM K ι m H) (g : Gr ι ι' H H') : ∀ {ps : List (Str × D)} {qs : List (Str × V)}, RFs K ι H ps qs → RFs K ι' H' ps qs
  | [], [], _ => trivial
  | [], _ :: _, h => h.elim
  | _ :: _, [], h => h.elim
  | _ :: _, _ :: _, ⟨h1, h2, h3⟩ => ⟨h1, h2.gr r g, RFs.gr r g h3⟩
/-! ### new objects, changed objects -/
/-- a new untracked object (a tuple) -/
theorem gr_new {m : M} (r : RM K ι m H) {p : Addr} (hp : H p = none) (o : HO) : Gr ι ι H (upd H p o) :=
  ⟨List.prefix_refl _, fun _ h n => absurd h n, fun a u h _ => by rw [upd_ne (ne_of_none h hp)]; exact h, fun a _ _ h => by rw [upd_ne (ne_of_none h hp)]; exact h⟩
theorem RO.keep {m : M} (r : RM K ι m H) (g : Gr ι ι' H H') {a : Addr} {o : MO} (e : H' a = H a) (h : RO K ι H a o) : RO K ι' H' a o := by
  cases o with
  | lst ds => obtain ⟨vs, h1, h2⟩ := h; exact ⟨vs, e.trans h1, h2.gr r g⟩
  | dic ds => obtain ⟨vs, h1, h2⟩ := h; exact ⟨vs, e.trans h1, h2.gr r g⟩
  | fdc ds => obtain ⟨o, vs, h1, h2⟩ := h; exact ⟨o, vs, e.trans h1, h2.gr r g⟩
  | ins nf fs => obtain ⟨C, dx, vs, h1, hc, h2⟩ := h; exact ⟨C, dx, vs, e.trans h1, hc, h2.gr r g⟩
  | exc cn fs => obtain ⟨C, dx, vs, h1, h3, hc, h2⟩ := h; exact ⟨C, dx, vs, e.trans h1, g.keep _ _ h3 (r.xd_notin h3), hc, h2.gr r g⟩
theorem rm_new {m : M} (r : RM K ι m H) {p : Addr} (hp : H p = none) (o : HO) : RM K ι m (upd H p o) :=
  ⟨r.len, r.nd, fun i u a h1 h2 => RO.keep r (gr_new r hp o) (upd_ne (fun z => r.none_notin hp (z ▸ List.mem_of_getElem? h2))) (r.ob i u a h1 h2)⟩
/-- a new object of the store -/
theorem gr_push {m : M} (r : RM K ι m H) {p : Addr} (hp : H p = none) (o : HO) : Gr ι (ι ++ [p]) H (upd H p o) :=
  ⟨List.prefix_append _ _, fun a h n => by
    rcases List.mem_append.mp h with h | h
    · exact absurd h n
    · rw [List.mem_singleton.mp h]; exact hp, fun a u h _ => by rw [upd_ne (ne_of_none h hp)]; exact h, fun a _ _ h => by rw [upd_ne (ne_of_none h hp)]; exact h⟩
theorem rm_push {m : M} (r : RM K ι m H) {p : Addr} (hp : H p = none) {o : HO} {u : MO} (hu : RO K (ι ++ [p]) (upd H p o) p u) : RM K (ι ++ [p]) (m ++ [u]) (upd H p o) := by
  have hn : p ∉ ι := r.none_notin hp
  refine ⟨by simp [r.len], ?_, fun i v a h1 h2 => ?_⟩
  · rw [List.nodup_append]
    exact ⟨r.nd, by simp, fun a ha b hb e => by rw [List.mem_singleton.mp hb] at e; exact hn (e ▸ ha)⟩
  · by_cases hi : i < m.length
    · rw [List.getElem?_append_left hi] at h1
      rw [List.getElem?_append_left (by rw [r.len]; exact hi)] at h2
      exact RO.keep r (gr_push r hp o) (upd_ne (fun z => hn (z ▸ List.mem_of_getElem? h2))) (r.ob i v a h1 h2)
    · have hi' : i = m.length := by
        have := (List.getElem?_eq_some_iff.mp h1).1
        simp at this; omega
      subst hi'
      simp at h1
      rw [← r.len] at h2
      simp at h2
      subst h1 h2
      exact hu
theorem at_push {p : Addr} {m : M} (r : RM K ι m H) : (ι ++ [p])[m.length]? = some p := by rw [← r.len]; simp
/-- an object of the store is changed -/
def NoF (H : Hp) (p : Addr) : Prop := ∀ o u, H p ≠ some (.frz o u)
theorem NoF.dK {p : Addr} {xs : List (Key × V)} (h : H p = some (.dK xs)) : NoF H p := fun _ _ z => by rw [h] at z; cases z
theorem gr_set {p : Addr} (hp : p ∈ ι) (hf : NoF H p) (o : HO) : Gr ι ι H (upd H p o) :=
  ⟨List.prefix_refl _, fun _ h n => absurd h n, fun a u h n => by rw [upd_ne (fun z : a = p => n (z ▸ hp))]; exact h, fun a _ _ h => by rw [upd_ne (fun z : a = p => hf _ _ (z ▸ h))]; exact h⟩
theorem nodup_at {l : List Addr} (nd : l.Nodup) {i j : Nat} {a : Addr} (h1 : l[i]? = some a) (h2 : l[j]? = some a) : i = j := by
  obtain ⟨l1, e1⟩ := List.getElem?_eq_some_iff.mp h1
  obtain ⟨l2, e2⟩ := List.getElem?_eq_some_iff.mp h2
  exact (List.getElem_inj nd).mp (e1.trans e2.symm)
theorem rm_set {m : M} (r : RM K ι m H) {k : Nat} {p : Addr} (hk : ι[k]? = some p) (hf : NoF H p) {o : HO} {u : MO} (hu : RO K ι (upd H p o) p u) : RM K ι (m.set k u) (upd H p o) := by
  refine ⟨by simp [r.len], r.nd, fun i v a h1 h2 => ?_⟩
  by_cases hi : i = k
  · subst hi
    rw [hk] at h2; cases h2
    have : i < m.length := by rw [← r.len]; exact (List.getElem?_eq_some_iff.mp hk).1
    rw [List.getElem?_set_self this] at h1; cases h1
    exact hu
  · rw [List.getElem?_set_ne (Ne.symm hi)] at h1
    have hne : a ≠ p := fun z => hi (nodup_at r.nd (z ▸ h2) hk)
    exact RO.keep r (gr_set (List.mem_of_getElem? hk) hf o) (upd_ne hne) (r.ob i v a h1 h2)
end
/-! ### an object that was built outside comes into the store -/
section
variable {K : PySem.W.Frag} {ι ι' : List Addr} {H H' : Hp}
structure Mv (ι ι' : List Addr) (H H' : Hp) : Prop where
  pre : ι <+: ι'
  kt : ∀ a xs, H a = some (.tup xs) → H' a = some (.tup xs)
  kf : ∀ a o u, (∀ ws, u ≠ .dK ws) → H a = some (.frz o u) → H' a = some (.frz o u)
  kx : ∀ a xs, H a = some (.xd xs) → H' a = some (.xd xs)
theorem Mv.at (g : Mv ι ι' H H') {i : Nat} {a : Addr} (e : ι[i]? = some a) : ι'[i]? = some a := by
  obtain ⟨t, rfl⟩ := g.pre
  rw [List.getElem?_append_left (List.getElem?_eq_some_iff.mp e).1]; exact e
theorem SqT.mv (g : Mv ι ι' H H') {a : Addr} {xs : List V} (h : SqT K H a xs) : SqT K H' a xs := by
  rcases h with (h | ⟨o, h⟩) | h
  · exact .inl (.inl (g.kt _ _ h))
  · exact .inl (.inr ⟨o, g.kf _ _ _ (fun _ z => nomatch z) h⟩)
  · exact .inr h
theorem SqF.mv (g : Mv ι ι' H H') {a : Addr} {xs : List V} (h : SqF K H a xs) : SqF K H' a xs := by
  rcases h with ⟨o, h⟩ | h
  · exact .inl ⟨o, g.kf _ _ _ (fun _ z => nomatch z) h⟩
  · exact .inr h
mutual
theorem RV.mv (g : Mv ι ι' H H') : ∀ {d : D} {v : V}, RV K ι H d v → RV K ι' H' d v
  | _, _, .non => .non
  | _, _, .bl b => .bl b
  | _, _, .int b => .int b
  | _, _, .str b => .str b
  | _, _, .tup h t => .tup (SqT.mv g h) (RVs.mv g t)
  | _, _, .fls h t => .fls (SqF.mv g h) (RVs.mv g t)
  | _, _, .ref h => .ref (g.at h)
theorem RVs.mv (g : Mv ι ι' H H') : ∀ {ds : List D} {vs : List V}, RVs K ι H ds vs → RVs K ι' H' ds vs
  | _, _, .nil => .nil
  | _, _, .cons h t => .cons (RV.mv g h) (RVs.mv g t)
end
theorem RKV.mv (g : Mv ι ι' H H') : ∀ {ps : List (Key × D)} {qs : List (Key × V)}, RKV K ι H ps qs → RKV K ι' H' ps qs
  | [], [], _ => trivial
  | [], _ :: _, h => h.elim
  | _ :: _, [], h => h.elim
  | _ :: _, _ :: _, ⟨h1, h2, h3⟩ => ⟨h1, h2.mv g, RKV.mv g h3⟩
theorem RFs.mv (g : Mv ι ι' H H') : ∀ {ps : List (Str × D)} {qs : List (Str × V)}, RFs K ι H ps qs → RFs K ι' H' ps qs
  | [], [], _ => trivial
  | [], _ :: _, h => h.elim
  | _ :: _, [], h => h.elim
  | _ :: _, _ :: _, ⟨h1, h2, h3⟩ => ⟨h1, h2.mv g, RFs.mv g h3⟩
theorem RO.mv (g : Mv ι ι' H H') {a : Addr} {o : MO} (e : H' a = H a) (h : RO K ι H a o) : RO K ι' H' a o := by
  cases o with
  | lst ds => obtain ⟨vs, h1, h2⟩ := h; exact ⟨vs, e.trans h1, h2.mv g⟩
  | dic ds => obtain ⟨vs, h1, h2⟩ := h; exact ⟨vs, e.trans h1, h2.mv g⟩
  | fdc ds => obtain ⟨o, vs, h1, h2⟩ := h; exact ⟨o, vs, e.trans h1, h2.mv g⟩
  | ins nf fs => obtain ⟨C, dx, vs, h1, hc, h2⟩ := h; exact ⟨C, dx, vs, e.trans h1, hc, h2.mv g⟩
  | exc cn fs => obtain ⟨C, dx, vs, h1, h3, hc, h2⟩ := h; exact ⟨C, dx, vs, e.trans h1, g.kx _ _ h3, hc, h2.mv g⟩
/-- p holds a list or a dict -/
def Ob (H : Hp) (p : Addr) : Prop := (∃ vs, H p = some (.lst vs)) ∨ ∃ ws, H p = some (.dK ws)
theorem mv_upd {p : Addr} (h : Ob H p) (pre : ι <+: ι') (o : HO) : Mv ι ι' H (upd H p o) := by
  refine ⟨pre, fun a xs e => ?_, fun a u w _ e => ?_, fun a xs e => ?_⟩
  · rw [upd_ne]; exact e
    intro z; subst z
    rcases h with ⟨_, h⟩ | ⟨_, h⟩ <;> rw [h] at e <;> cases e
  · rw [upd_ne]; exact e
    intro z; subst z
    rcases h with ⟨_, h⟩ | ⟨_, h⟩ <;> rw [h] at e <;> cases e
  · rw [upd_ne]; exact e
    intro z; subst z
    rcases h with ⟨_, h⟩ | ⟨_, h⟩ <;> rw [h] at e <;> cases e
theorem rm_side {m : M} (r : RM K ι m H) {p : Addr} (hn : p ∉ ι) (hp : Ob H p) (o : HO) : RM K ι m (upd H p o) :=
  ⟨r.len, r.nd, fun i u a h1 h2 => RO.mv (mv_upd hp (List.prefix_refl _) o) (upd_ne (fun z => hn (z ▸ List.mem_of_getElem? h2))) (r.ob i u a h1 h2)⟩
theorem rm_adopt {m : M} (r : RM K ι m H) {p : Addr} (hn : p ∉ ι) (hp : Ob H p) {o : HO} {u : MO} (hu : RO K (ι ++ [p]) (upd H p o) p u) : RM K (ι ++ [p]) (m ++ [u]) (upd H p o) := by
  refine ⟨by simp [r.len], ?_, fun i v a h1 h2 => ?_⟩
  · rw [List.nodup_append]
    exact ⟨r.nd, by simp, fun a ha b hb e => by rw [List.mem_singleton.mp hb] at e; exact hn (e ▸ ha)⟩
  · by_cases hi : i < m.length
    · rw [List.getElem?_append_left hi] at h1
      rw [List.getElem?_append_left (by rw [r.len]; exact hi)] at h2
      exact RO.mv (mv_upd hp (List.prefix_append _ _) o) (upd_ne (fun z => hn (z ▸ List.mem_of_getElem? h2))) (r.ob i v a h1 h2)
    · have hi' : i = m.length := by
        have := (List.getElem?_eq_some_iff.mp h1).1
        simp at this; omega
      subst hi'
      simp at h1
      rw [← r.len] at h2
      simp at h2
      subst h1 h2
      exact hu
end
end L3

set_option Elab.async false
set_option linter.all false
set_option maxRecDepth 100000
namespace L3
open PySem PySem.Spec PyProof.Rows L2

abbrev En := List (Option D)
def RS (K : PySem.W.Frag) (ι : List Addr) (H : Hp) (σ : L2.St) (ρ : En) : Prop := σ.length = ρ.length ∧ ∀ (i : Nat) (d : D), ρ[i]? = some (some d) → ∃ v, σ[i]? = some (some v) ∧ RV K ι H d v
theorem RS.gr {K : PySem.W.Frag} {ι ι' : List Addr} {H H' : Hp} {m : M} {σ : L2.St} {ρ : En} (r : RM K ι m H) (g : Gr ι ι' H H') (h : RS K ι H σ ρ) : RS K ι' H' σ ρ :=
  ⟨h.1, fun i d e => let ⟨v, h1, h2⟩ := h.2 i d e; ⟨v, h1, h2.gr r g⟩⟩
abbrev CE := En → M → Option (D × M)
abbrev CA := En → M → Option (List D × M)
abbrev CT := En → M → Option (Bool × M)
/-- what comes of a value: all ends that go with it -/
abbrev Ko (K : PySem.W.Frag) (ι : List Addr) (H : Hp) (d : D) (m' : M) (Q : VK) : Prop := ∀ (ι' : List Addr) (H' : Hp) (v : V), Gr ι ι' H H' → RM K ι' m' H' → RV K ι' H' d v → Q v H'
abbrev Kos (K : PySem.W.Frag) (ι : List Addr) (H : Hp) (ds : List D) (m' : M) (Q : List V → Hp → Prop) : Prop := ∀ (ι' : List Addr) (H' : Hp) (vs : List V), Gr ι ι' H H' → RM K ι' m' H' → RVs K ι' H' ds vs → Q vs H'
abbrev Kt (K : PySem.W.Frag) (ι : List Addr) (H : Hp) (m' : M) (Q : Hp → Prop) : Prop := ∀ (ι' : List Addr) (H' : Hp), Gr ι ι' H H' → RM K ι' m' H' → Q H'

structure LE (X : Cx) (e : Expr) (c : CE) : Prop where
  ex : ∃ t, PE X e t ∧ ∀ (ρ : En) (m : M) (d : D) (m' : M) (ι : List Addr) (σ : L2.St) (H : Hp) (Q : VK), c ρ m = some (d, m') → RM X.K ι m H → RS X.K ι H σ ρ → Ko X.K ι H d m' Q → t σ H Q
structure LA (X : Cx) (es : List Expr) (c : CA) : Prop where
  ex : ∃ t, PA X es t ∧ ∀ (ρ : En) (m : M) (ds : List D) (m' : M) (ι : List Addr) (σ : L2.St) (H : Hp) (Q : List V → Hp → Prop), c ρ m = some (ds, m') → RM X.K ι m H → RS X.K ι H σ ρ → Kos X.K ι H ds m' Q → t σ H Q
structure LT (X : Cx) (e : Expr) (c : CT) : Prop where
  ex : ∃ t, PT X e t ∧ ∀ (ρ : En) (m : M) (b : Bool) (m' : M) (ι : List Addr) (σ : L2.St) (H : Hp) (Q : Bool → Hp → Prop), c ρ m = some (b, m') → RM X.K ι m H → RS X.K ι H σ ρ → Kt X.K ι H m' (Q b) → t σ H Q
/-- an and, or as a test -/
structure LW (X : Cx) (e : Expr) (c : CT) : Prop where
  ex : ∃ t, PW X e t ∧ ∀ (ρ : En) (m : M) (b : Bool) (m' : M) (ι : List Addr) (σ : L2.St) (H : Hp) (Q : Bool → Hp → Prop), c ρ m = some (b, m') → RM X.K ι m H → RS X.K ι H σ ρ → Kt X.K ι H m' (Q b) → t σ H Q

section
variable {X : Cx}
/-! ### names, constants -/
def cVar (i : Nat) : CE := fun ρ m => match ρ[i]? with
  | some (some d) => some (d, m)
  | _ => none
def cC (d : D) : CE := fun _ m => some (d, m)
theorem le_var (i : Nat) {x : Str} {pos : Pos} (hN : X.N[i]? = some x := by rfl) (hv : Vis X.env.scope x := by first | exact Or.inl rfl | exact Or.inr (Or.inl rfl) | exact Or.inr (Or.inr rfl)) (hd : (x == ("__debug__" : Str)) = false := by decide)
    (hcd : (x == ("__classdict__" : Str)) = false := by decide) : LE X (.Name x pos) (cVar i) := ⟨_, pe_var hN hv hd hcd, fun ρ m d m' ι σ H Q e r s k => by
  unfold cVar at e
  split at e
  · rename_i d' e'
    cases e
    obtain ⟨v, h1, h2⟩ := s.2 i d e'
    exact ⟨v, h1, k ι H v .refl r h2⟩
  · cases e⟩
theorem le_int {i j pos} : LE X (.Constant (.int i) j pos) (cC (.int i)) := ⟨_, pe_int, fun ρ m d m' ι σ H Q e r s k => by cases e; exact k ι H _ .refl r (.int i)⟩
theorem le_bl {i j pos} : LE X (.Constant (.bool i) j pos) (cC (.bl i)) := ⟨_, pe_bl, fun ρ m d m' ι σ H Q e r s k => by cases e; exact k ι H _ .refl r (.bl i)⟩
theorem le_non {j pos} : LE X (.Constant .none j pos) (cC .non) := ⟨_, pe_non, fun ρ m d m' ι σ H Q e r s k => by cases e; exact k ι H _ .refl r .non⟩
theorem le_str {i j pos} : LE X (.Constant (.str i) j pos) (cC (.str i)) := ⟨_, pe_str, fun ρ m d m' ι σ H Q e r s k => by cases e; exact k ι H _ .refl r (.str i)⟩
/-! ### argument lists -/
def cNil : CA := fun _ m => some ([], m)
def cCons (c : CE) (cs : CA) : CA := fun ρ m => (c ρ m).bind fun p => (cs ρ p.2).bind fun q => some (p.1 :: q.1, q.2)
theorem la_nil : LA X [] cNil := ⟨_, pa_nil, fun ρ m ds m' ι σ H Q e r s k => by cases e; exact k ι H _ .refl r .nil⟩
theorem la_cons {e : Expr} {es : List Expr} {c : CE} {cs : CA} (h : LE X e c) (hs : LA X es cs) (hst : starEach (e :: es) X.env = (false, eval e X.env) :: starEach es X.env := by rfl) : LA X (e :: es) (cCons c cs) := by
  obtain ⟨t, pt, ht⟩ := h.ex
  obtain ⟨u, pu, hu⟩ := hs.ex
  refine ⟨_, pa_cons pt pu hst, fun ρ m ds m' ι σ H Q e r s k => ?_⟩
  unfold cCons at e
  obtain ⟨⟨d, m1⟩, e1, e⟩ := Option.bind_eq_some_iff.mp e
  obtain ⟨⟨es, m2⟩, e2, e⟩ := Option.bind_eq_some_iff.mp e
  cases e
  refine ht ρ m d m1 ι σ H _ e1 r s fun ι1 H1 v g1 r1 h1 => ?_
  refine hu ρ m1 es m2 ι1 σ H1 _ e2 r1 (s.gr r g1) fun ι2 H2 vs g2 r2 h2 => ?_
  exact k ι2 H2 _ (g1.trans g2) r2 (.cons (h1.gr r1 g2) h2)
/-! ### displays -/
def aTup (ds : List D) (m : M) : Option (D × M) := if ds.length ≤ sizeLine then some (.tup ds, m) else none
def aLst (ds : List D) (m : M) : Option (D × M) := if ds.length ≤ sizeLine then some (.ref m.length, m ++ [.lst ds]) else none
theorem sqT_new {K : PySem.W.Frag} {H : Hp} {p : Addr} {vs : List V} : SqT K (upd H p (.tup vs)) p vs := .of upd_same
/-- a new tuple -/
theorem ko_tup {K : PySem.W.Frag} {ι : List Addr} {H : Hp} {ds : List D} {vs : List V} {m : M} {Q : VK} (r : RM K ι m H) (h : RVs K ι H ds vs) (k : Ko K ι H (.tup ds) m Q) : ∀ p, H p = none → Q (.ref p) (upd H p (.tup vs)) := fun p hp =>
  k ι _ _ (gr_new r hp _) (rm_new r hp _) (.tup sqT_new (h.gr r (gr_new r hp _)))
theorem ko_lst {K : PySem.W.Frag} {ι : List Addr} {H : Hp} {ds : List D} {vs : List V} {m : M} {Q : VK} (r : RM K ι m H) (h : RVs K ι H ds vs) (k : Ko K ι H (.ref m.length) (m ++ [.lst ds]) Q) : ∀ p, H p = none → Q (.ref p) (upd H p (.lst vs)) := fun p hp =>
  k (ι ++ [p]) _ _ (gr_push r hp _) (rm_push r hp ⟨vs, upd_same, h.gr r (gr_push r hp _)⟩) (.ref (at_push r))
def cTup (cs : CA) : CE := fun ρ m => (cs ρ m).bind fun p => aTup p.1 p.2
def cLst (cs : CA) : CE := fun ρ m => (cs ρ m).bind fun p => aLst p.1 p.2
theorem le_tup {es : List Expr} {cs : CA} {x1} {pos : Pos} (h : LA X es cs) : LE X (.Tuple es x1 pos) (cTup cs) := by
  obtain ⟨t, pt, ht⟩ := h.ex
  refine ⟨_, pe_tup pt, fun ρ m d m' ι σ H Q e r s k => ?_⟩
  unfold cTup aTup at e
  obtain ⟨⟨ds, m1⟩, e1, e⟩ := Option.bind_eq_some_iff.mp e
  split at e
  · rename_i hz
    cases e
    refine ht ρ m ds m1 ι σ H _ e1 r s fun ι1 H1 vs g1 r1 h1 => ?_
    exact ⟨by rw [← h1.length]; exact hz, ko_tup r1 h1 fun ι' H' v g r' h' => k ι' H' v (g1.trans g) r' h'⟩
  · cases e
theorem le_lst {es : List Expr} {cs : CA} {pos : Pos} (h : LA X es cs) : LE X (.List es pos) (cLst cs) := by
  obtain ⟨t, pt, ht⟩ := h.ex
  refine ⟨_, pe_lst pt, fun ρ m d m' ι σ H Q e r s k => ?_⟩
  unfold cLst aLst at e
  obtain ⟨⟨ds, m1⟩, e1, e⟩ := Option.bind_eq_some_iff.mp e
  split at e
  · rename_i hz
    cases e
    refine ht ρ m ds m1 ι σ H _ e1 r s fun ι1 H1 vs g1 r1 h1 => ?_
    exact ⟨by rw [← h1.length]; exact hz, ko_lst r1 h1 fun ι' H' v g r' h' => k ι' H' v (g1.trans g) r' h'⟩
  · cases e

/-! ### operators -/
abbrev F2 := D → D → M → Option (D × M)
structure LOp (X : Cx) (op : Value → Value → Sem Value) (f : F2) : Prop where
  ex : ∃ r, OpR X op r ∧ ∀ (x y : D) (m : M) (d : D) (m' : M) (ι : List Addr) (H : Hp) (v w : V) (Q : VK), f x y m = some (d, m') → RM X.K ι m H → RV X.K ι H x v → RV X.K ι H y w → Ko X.K ι H d m' Q → r v w H Q
theorem opR_or {op : Value → Value → Sem Value} {r r' : R2} (h : OpR X op r) (h' : OpR X op r') : OpR X op (fun x y H Q => r x y H Q ∨ r' x y H Q) := by
  intro pins s σ H x y v u Q I rx ry q
  rcases q with q | q
  · exact h pins s σ H x y v u Q I rx ry q
  · exact h' pins s σ H x y v u Q I rx ry q
def fOr (f g : F2) : F2 := fun x y m => match f x y m with
  | some r => some r
  | none => g x y m
theorem LOp.or {op : Value → Value → Sem Value} {f g : F2} (h : LOp X op f) (h' : LOp X op g) : LOp X op (fOr f g) := by
  obtain ⟨r, pr, hr⟩ := h.ex
  obtain ⟨r', pr', hr'⟩ := h'.ex
  refine ⟨_, opR_or pr pr', fun x y m d m' ι H v w Q e rm rx ry k => ?_⟩
  unfold fOr at e
  split at e
  · rename_i e'
    cases e
    exact .inl (hr x y m d m' ι H v w Q e' rm rx ry k)
  · exact .inr (hr' x y m d m' ι H v w Q e rm rx ry k)
def c2 (f : F2) (a b : CE) : CE := fun ρ m => (a ρ m).bind fun p => (b ρ p.2).bind fun q => f p.1 q.1 q.2
theorem two {ca cb : CE} {ta tb : TE} {f : F2} {r : R2}
    (ha : ∀ (ρ : En) (m : M) (d : D) (m' : M) (ι : List Addr) (σ : L2.St) (H : Hp) (Q : VK), ca ρ m = some (d, m') → RM X.K ι m H → RS X.K ι H σ ρ → Ko X.K ι H d m' Q → ta σ H Q)
    (hb : ∀ (ρ : En) (m : M) (d : D) (m' : M) (ι : List Addr) (σ : L2.St) (H : Hp) (Q : VK), cb ρ m = some (d, m') → RM X.K ι m H → RS X.K ι H σ ρ → Ko X.K ι H d m' Q → tb σ H Q)
    (hr : ∀ (x y : D) (m : M) (d : D) (m' : M) (ι : List Addr) (H : Hp) (v w : V) (Q : VK), f x y m = some (d, m') → RM X.K ι m H → RV X.K ι H x v → RV X.K ι H y w → Ko X.K ι H d m' Q → r v w H Q)
    {ρ : En} {m : M} {d : D} {m' : M} {ι : List Addr} {σ : L2.St} {H : Hp} {Q : VK} (e : c2 f ca cb ρ m = some (d, m')) (rm : RM X.K ι m H) (s : RS X.K ι H σ ρ) (k : Ko X.K ι H d m' Q) : tOp r ta tb σ H Q := by
  unfold c2 at e
  obtain ⟨⟨x, m1⟩, e1, e⟩ := Option.bind_eq_some_iff.mp e
  obtain ⟨⟨y, m2⟩, e2, e⟩ := Option.bind_eq_some_iff.mp e
  refine ha ρ m x m1 ι σ H _ e1 rm s fun ι1 H1 v g1 r1 h1 => ?_
  refine hb ρ m1 y m2 ι1 σ H1 _ e2 r1 (s.gr rm g1) fun ι2 H2 w g2 r2 h2 => ?_
  exact hr x y m2 d m' ι2 H2 v w Q e r2 (h1.gr r1 g2) h2 fun ι3 H3 u g3 r3 h3 => k ι3 H3 u ((g1.trans g2).trans g3) r3 h3
theorem le_op {op : Operator} {a b : Expr} {ca cb : CE} {f : F2} {pos : Pos} (h : LOp X (binaryOp op) f) (ha : LE X a ca) (hb : LE X b cb) : LE X (.BinOp a op b pos) (c2 f ca cb) := by
  obtain ⟨r, pr, hr⟩ := h.ex
  obtain ⟨ta, pa, ha⟩ := ha.ex
  obtain ⟨tb, pb, hb⟩ := hb.ex
  exact ⟨_, pe_op pr pa pb, fun ρ m d m' ι σ H Q e rm s k => two ha hb hr e rm s k⟩
end
end L3

set_option Elab.async false
set_option linter.all false
set_option maxRecDepth 100000
namespace L3
open PySem PySem.Spec PyProof.Rows L2
section
variable {X : Cx}
/-! ### ints -/
def fI (C : Int → Int → Bool) (g : Int → Int → D) : F2 := fun x y m => match x, y with
  | .int i, .int j => if C i j = true then some (g i j, m) else none
  | _, _ => none
theorem lop_I {op : Value → Value → Sem Value} {C : Int → Int → Bool} {C' : Int → Int → Prop} {g : Int → Int → D} {g' : Int → Int → V} (h : OpR X op (rI C' g')) (hC : ∀ i j, C i j = true → C' i j)
    (hg : ∀ K ι H i j, RV K ι H (g i j) (g' i j)) : LOp X op (fI C g) := ⟨_, h, fun x y m d m' ι H v w Q e rm rx ry k => by
  unfold fI at e
  split at e
  · split at e
    · rename_i hc
      cases e; cases rx; cases ry
      exact ⟨_, _, rfl, rfl, hC _ _ hc, k ι H _ .refl rm (hg _ _ _ _ _)⟩
    · cases e
  · cases e⟩
theorem lop_I0 {op : Value → Value → Sem Value} {g : Int → Int → D} {g' : Int → Int → V} (h : OpR X op (rI0 g')) (hg : ∀ K ι H i j, RV K ι H (g i j) (g' i j)) : LOp X op (fI (fun _ _ => true) g) := ⟨_, h, fun x y m d m' ι H v w Q e rm rx ry k => by
  unfold fI at e
  split at e
  · split at e
    · cases e; cases rx; cases ry
      exact ⟨_, _, rfl, rfl, k ι H _ .refl rm (hg _ _ _ _ _)⟩
    · cases e
  · cases e⟩
abbrev subI : F2 := fI (fun _ _ => true) fun i j => .int (i - j)
theorem lop_subI : LOp X (binaryOp .Sub) subI := lop_I0 op_sub fun _ _ _ i j => .int _
/-- a truth among ints -/
def bI (b : Bool) : Int := if b = true then 1 else 0
theorem op_add_bi : OpR X (binaryOp .Add) (fun x y H Q => ∃ a j, x = .bl a ∧ y = .int j ∧ Q (.int (bI a + j)) H) := by
  intro pins s σ H x y v u Q I rx ry h
  obtain ⟨a, j, rfl, rfl, q⟩ := h
  obtain ⟨t, rfl⟩ := ry
  cases rx
  exact PySem.IntBool.add_bool_int ⟨.int (bI a + j), H, I.tok _, ⟨_, rfl⟩, q⟩
theorem op_sub_bi : OpR X (binaryOp .Sub) (fun x y H Q => ∃ a j, x = .bl a ∧ y = .int j ∧ Q (.int (bI a - j)) H) := by
  intro pins s σ H x y v u Q I rx ry h
  obtain ⟨a, j, rfl, rfl, q⟩ := h
  obtain ⟨t, rfl⟩ := ry
  cases rx
  exact PySem.IntBool.sub_bool_int ⟨.int (bI a - j), H, I.tok _, ⟨_, rfl⟩, q⟩
def addB : F2 := fun x y m => match x, y with
  | .bl a, .int j => some (.int (bI a + j), m)
  | _, _ => none
def subB : F2 := fun x y m => match x, y with
  | .bl a, .int j => some (.int (bI a - j), m)
  | _, _ => none
theorem lop_addB : LOp X (binaryOp .Add) addB := ⟨_, op_add_bi, fun x y m d m' ι H v w Q e rm rx ry k => by
  unfold addB at e
  split at e
  · cases e; cases rx; cases ry
    exact ⟨_, _, rfl, rfl, k ι H _ .refl rm (.int _)⟩
  · cases e⟩
theorem lop_subB : LOp X (binaryOp .Sub) subB := ⟨_, op_sub_bi, fun x y m d m' ι H v w Q e rm rx ry k => by
  unfold subB at e
  split at e
  · cases e; cases rx; cases ry
    exact ⟨_, _, rfl, rfl, k ι H _ .refl rm (.int _)⟩
  · cases e⟩
def fSub : F2 := fOr subI subB
theorem lop_sub : LOp X (binaryOp .Sub) fSub := lop_subI.or lop_subB
abbrev fMul : F2 := fI (fun i j => (decide (-(2 ^ 64) < i) && decide (i < 2 ^ 64)) || (decide (-(2 ^ 64) < j) && decide (j < 2 ^ 64))) fun i j => .int (i * j)
theorem lop_mul : LOp X (binaryOp .Mult) fMul := lop_I op_mul (fun i j h => by
  simp only [Bool.or_eq_true, Bool.and_eq_true, decide_eq_true_eq] at h
  exact h) fun _ _ _ i j => .int _
abbrev fDiv : F2 := fI (fun i j => decide (0 < j) && decide (j < 1073741824)) fun i j => .int (i / j)
theorem lop_fdiv : LOp X (binaryOp .FloorDiv) fDiv := lop_I op_fdiv (fun i j h => by
  simp only [Bool.and_eq_true, decide_eq_true_eq] at h
  exact h) fun _ _ _ i j => .int _
abbrev fMod : F2 := fI (fun i j => decide (0 < j)) fun i j => .int (i % j)
theorem lop_mod : LOp X (binaryOp .Mod) fMod := lop_I op_mod (fun i j h => by
  simp only [decide_eq_true_eq] at h
  exact h) fun _ _ _ i j => .int _
abbrev fPow : F2 := fI (fun i j => decide (0 ≤ j) && decide (j ≤ 1000000) && decide (i.natAbs < 2 ^ 64)) fun i j => .int (i ^ j.toNat)
theorem lop_pow : LOp X (binaryOp .Pow) fPow := lop_I op_pow (fun i j h => by
  simp only [Bool.and_eq_true, decide_eq_true_eq] at h
  exact ⟨h.1.1, h.1.2, h.2⟩) fun _ _ _ i j => .int _
abbrev fLt : F2 := fI (fun _ _ => true) fun i j => .bl (decide (i < j))
abbrev fLe : F2 := fI (fun _ _ => true) fun i j => .bl (decide (i ≤ j))
abbrev fGt : F2 := fI (fun _ _ => true) fun i j => .bl (decide (j < i))
abbrev fGe : F2 := fI (fun _ _ => true) fun i j => .bl (decide (j ≤ i))
theorem lop_lt : LOp X (compareOp .Lt) fLt := lop_I0 op_lt fun _ _ _ i j => .bl _
theorem lop_gt : LOp X (compareOp .Gt) fGt := lop_I0 op_gt fun _ _ _ i j => .bl _
theorem lop_ge : LOp X (compareOp .GtE) fGe := lop_I0 op_ge fun _ _ _ i j => .bl _

/-! ### + of all kinds -/
abbrev addI : F2 := fI (fun _ _ => true) fun i j => .int (i + j)
theorem lop_addI : LOp X (binaryOp .Add) addI := lop_I0 op_add fun _ _ _ i j => .int _
def addS : F2 := fun x y m => match x, y with
  | .str i, .str j => if i.length + j.length ≤ sizeLine then some (.str (i ++ j), m) else none
  | _, _ => none
theorem lop_addS : LOp X (binaryOp .Add) addS := ⟨_, op_add_str, fun x y m d m' ι H v w Q e rm rx ry k => by
  unfold addS at e
  split at e
  · split at e
    · rename_i hc
      cases e; cases rx; cases ry
      exact ⟨_, _, rfl, rfl, hc, k ι H _ .refl rm (.str _)⟩
    · cases e
  · cases e⟩
/-- () + t is t -/
theorem cat_tup0 {prog : Program} {w : World} {A : Around} {E : Value → Shared → Prop} {s : Shared} {t b : Addr} {ws : List Value} {Q : Value → Shared → Prop} (ht : IsTup s.heap t #[]) (hb : IsTup s.heap b ws.toArray)
    (h1 : Q (.ref b) s) : wpAny (model prog w) A (binaryOp .Add (.ref t) (.ref b)) Q E s := by
  obtain ⟨⟨cls, dd, data, sl⟩, ho, hc, n, hd⟩ := id ht
  obtain ⟨⟨cls2, dd2, data2, sl2⟩, ho2, hc2, n2, hd2⟩ := id hb
  simp only at hc hd hc2 hd2
  subst hc hd hc2 hd2
  refine concat_meets ⟨_, ho, rfl⟩ ⟨_, ho2, rfl⟩ noFill_tuple_add seq_tuple_add PySem.F.slot_tuple_add PySem.F.entry_tuple_add (PySem.F.args_tuple_add_2 _ _) (S := fun _ R s => s.heap.get? t = some { cls := .type "tuple", dict := dd, data := .seq #[] n, slots := sl } ∧ s.heap.get? b = some { cls := .type "tuple", dict := dd2, data := .seq ws.toArray n2, slots := sl2 } ∧ R (.ok (.ret (Value.ref b))) { s with heap := s.heap, toks := s.toks }) ?_ ⟨ho, ho2, h1⟩
  exact .of_wp fun prog w A R s h => by
    obtain ⟨hp, g, d, tk, os⟩ := s
    obtain ⟨hl, hb, h⟩ := h
    have f2 := AutoSeq1.sub_tuple_tuple
    wp_walk using wpAny_loadPart' hl, wpAny_loadPart' hb
    exact ⟨_, rfl, h⟩
def rCat0 (K : PySem.W.Frag) : R2 := fun x y H Q => ∃ a b ys, x = .ref a ∧ y = .ref b ∧ SqT K H a [] ∧ SqT K H b ys ∧ Q (.ref b) H
theorem op_cat0 : OpR X (binaryOp .Add) (rCat0 X.K) := by
  intro pins s σ H x y v u Q I rx ry h
  obtain ⟨a, b, ys, rfl, rfl, ha, hb, q⟩ := h
  cases rx
  cases ry
  obtain ⟨its, r1, p1, _⟩ := I.tuple ha
  obtain ⟨its2, r2, p2, _⟩ := I.tuple hb
  cases r1
  exact cat_tup0 p1 p2 ⟨.ref b, H, I, rfl, q⟩
def addT : F2 := fun x y m => match x, y with
  | .tup xs, .tup ys => if xs.length + ys.length ≤ sizeLine then some (.tup (xs ++ ys), m) else none
  | _, _ => none
theorem lop_addT : LOp X (binaryOp .Add) addT := ⟨_, opR_or op_cat0 op_catT, fun x y m d m' ι H v w Q e rm rx ry k => by
  unfold addT at e
  split at e
  · split at e
    · rename_i xs ys hz
      cases e
      cases rx with
      | tup h1 t1 =>
        cases ry with
        | tup h2 t2 =>
          cases xs with
          | nil =>
            cases t1
            exact .inl ⟨_, _, _, rfl, rfl, h1, h2, k ι H _ .refl rm (.tup h2 t2)⟩
          | cons x xs =>
            refine .inr ⟨_, _, _, _, rfl, rfl, h1, h2, ?_, ?_, fun e => ?_, fun e => ?_⟩
            · intro z; subst z; cases t1
            · rw [← t1.length, ← t2.length]; exact hz
            · subst e
              have : ys = [] := List.eq_nil_of_length_eq_zero (by rw [t2.length]; rfl)
              subst this
              refine k ι H _ .refl rm ?_
              rw [List.append_nil]
              exact .tup h1 t1
            · exact ko_tup rm (t1.append t2) k
    · cases e
  · cases e⟩
def addL : F2 := fun x y m => match x, y with
  | .ref i, .ref j => match m[i]?, m[j]? with
    | some (.lst xs), some (.lst ys) => aLst (xs ++ ys) m
    | _, _ => none
  | _, _ => none
theorem lop_addL : LOp X (binaryOp .Add) addL := ⟨_, op_cat, fun x y m d m' ι H v w Q e rm rx ry k => by
  unfold addL at e
  split at e
  · split at e
    · rename_i i j _ _ xs ys e1 e2
      unfold aLst at e
      split at e
      · rename_i hz
        cases e
        cases rx with
        | ref h1 =>
          cases ry with
          | ref h2 =>
            obtain ⟨vs, a1, b1⟩ := rm.ob _ _ _ e1 h1
            obtain ⟨ws, a2, b2⟩ := rm.ob _ _ _ e2 h2
            refine ⟨_, _, _, _, rfl, rfl, a1, a2, ?_, ko_lst rm (b1.append b2) k⟩
            rw [← b1.length, ← b2.length, ← List.length_append]; exact hz
      · cases e
    · cases e
  · cases e⟩
def fAdd : F2 := fOr addI (fOr addS (fOr addT (fOr addL addB)))
theorem lop_add : LOp X (binaryOp .Add) fAdd := lop_addI.or (lop_addS.or (lop_addT.or (lop_addL.or lop_addB)))

/-! ### comparisons -/
theorem le_cmp {op : CmpOp} {a b : Expr} {ca cb : CE} {f : F2} {pos : Pos} (h : LOp X (compareOp op) f) (ha : LE X a ca) (hb : LE X b cb) (hm : behindInMarks op b = false := by first | exact nomark _ | rfl) : LE X (.Compare a [op] [b] pos) (c2 f ca cb) := by
  obtain ⟨r, pr, hr⟩ := h.ex
  obtain ⟨ta, pa, ha⟩ := ha.ex
  obtain ⟨tb, pb, hb⟩ := hb.ex
  exact ⟨_, pe_cmpR pr pa pb hm, fun ρ m d m' ι σ H Q e rm s k => two ha hb hr e rm s k⟩
/-- a value that is a truth, as a test -/
def cB (c : CE) : CT := fun ρ m => match c ρ m with
  | some (.bl b, m') => some (b, m')
  | _ => none
theorem cB_of {c : CE} {ρ : En} {m : M} {b : Bool} {m' : M} (e : cB c ρ m = some (b, m')) : c ρ m = some (.bl b, m') := by
  unfold cB at e
  split at e
  · rename_i h; cases e; exact h
  · cases e
theorem lt_cmp {op : CmpOp} {a b : Expr} {ca cb : CE} {f : F2} {pos : Pos} (h : LOp X (compareOp op) f) (ha : LE X a ca) (hb : LE X b cb) (hm : behindInMarks op b = false := by first | exact nomark _ | rfl) : LT X (.Compare a [op] [b] pos) (cB (c2 f ca cb)) := by
  obtain ⟨r, pr, hr⟩ := h.ex
  obtain ⟨ta, pa, ha⟩ := ha.ex
  obtain ⟨tb, pb, hb⟩ := hb.ex
  refine ⟨_, pt_cmpR pr pa pb hm, fun ρ m b m' ι σ H Q e rm s k => ?_⟩
  refine two (ca := ca) (cb := cb) ha hb hr (cB_of e) rm s fun ι' H' v g r h => ?_
  cases h
  exact ⟨b, rfl, k ι' H' g r⟩
def cCh (f f' : F2) (a b c : CE) : CE := fun ρ m => (a ρ m).bind fun p => (b ρ p.2).bind fun q => match f p.1 q.1 q.2 with
  | some (.bl true, m3) => (c ρ m3).bind fun z => f' q.1 z.1 z.2
  | some (.bl false, m3) => some (.bl false, m3)
  | _ => none
/-! ### tests -/
def truD (d : D) (m : M) : Option Bool := match d with
  | .non => some false
  | .bl b => some b
  | .int i => some (i != 0)
  | .str y => if y.length ≤ sizeLine then some ((y.length : Int) != 0) else none
  | .tup ds => some (!ds.isEmpty)
  | .fls ds => some (!ds.isEmpty)
  | .ref i => match m[i]? with
    | some (.lst ds) => some (!ds.isEmpty)
    | some (.dic ds) => some (!ds.isEmpty)
    | _ => none
theorem RVs.isEmpty {K : PySem.W.Frag} {ι : List Addr} {H : Hp} {ds : List D} {vs : List V} (h : RVs K ι H ds vs) : ds.isEmpty = vs.isEmpty := by cases h <;> rfl
theorem RKV.isEmpty {K : PySem.W.Frag} {ι : List Addr} {H : Hp} : ∀ {ds : List (Key × D)} {vs : List (Key × V)}, RKV K ι H ds vs → ds.isEmpty = vs.isEmpty
  | [], [], _ => rfl
  | _ :: _, _ :: _, _ => rfl
  | [], _ :: _, h => h.elim
  | _ :: _, [], h => h.elim
theorem tru_of {K : PySem.W.Frag} {ι : List Addr} {H : Hp} {m : M} {d : D} {v : V} {b : Bool} (r : RM K ι m H) (h : RV K ι H d v) (e : truD d m = some b) : TruV K v H b := by
  cases h with
  | non => cases e; rfl
  | bl b => cases e; rfl
  | int b => cases e; rfl
  | str b =>
    unfold truD at e
    split at e
    all_goals first | cases e | skip
    all_goals try (rename_i h; cases h)
    split at e
    · rename_i hz; cases e; exact ⟨hz, rfl⟩
    · cases e
  | tup h t => cases e; exact .inr (.inl ⟨_, h, by rw [t.isEmpty]⟩)
  | fls h t => cases e; exact .inl ⟨_, h.sq, by rw [t.isEmpty]⟩
  | @ref i a h =>
    unfold truD at e
    simp only at e
    split at e
    · rename_i ds e1
      cases e
      obtain ⟨vs, h1, h2⟩ := r.ob _ _ _ e1 h
      exact .inl ⟨_, .of h1, by rw [h2.isEmpty]⟩
    · rename_i ds e1
      cases e
      obtain ⟨vs, h1, h2⟩ := r.ob _ _ _ e1 h
      exact .inr (.inr ⟨_, h1, by rw [h2.isEmpty]⟩)
    · cases e
def cTru (c : CE) : CT := fun ρ m => (c ρ m).bind fun p => (truD p.1 p.2).bind fun b => some (b, p.2)
theorem lt_truth {a : Expr} {c : CE} (h : LE X a c) (he : ∀ whole, isTrue a X.env whole = (do let v ← whole; standAt a.pos; holding [v] (truthy v)) := by intro _; rfl) : LT X a (cTru c) := by
  obtain ⟨t, pt, ht⟩ := h.ex
  refine ⟨_, pt_truth pt he, fun ρ m b m' ι σ H Q e r s k => ?_⟩
  unfold cTru at e
  obtain ⟨⟨d, m1⟩, e1, e⟩ := Option.bind_eq_some_iff.mp e
  obtain ⟨b', e2, e⟩ := Option.bind_eq_some_iff.mp e
  cases e
  refine ht ρ m d m1 ι σ H _ e1 r s fun ι1 H1 v g1 r1 h1 => ?_
  exact ⟨b, tru_of r1 h1 e2, k ι1 H1 g1 r1⟩
def cNotT (c : CT) : CT := fun ρ m => (c ρ m).bind fun p => some (!p.1, p.2)
theorem lt_not {a : Expr} {c : CT} {pos : Pos} (h : LT X a c) : LT X (.UnaryOp .Not a pos) (cNotT c) := by
  obtain ⟨t, pt, ht⟩ := h.ex
  refine ⟨_, pt_not pt, fun ρ m b m' ι σ H Q e r s k => ?_⟩
  unfold cNotT at e
  obtain ⟨⟨d, m1⟩, e1, e⟩ := Option.bind_eq_some_iff.mp e
  cases e
  exact ht ρ m d m1 ι σ H _ e1 r s fun ι1 H1 g1 r1 => k ι1 H1 g1 r1
def cAndT (a b : CT) : CT := fun ρ m => (a ρ m).bind fun p => if p.1 = true then b ρ p.2 else some (false, p.2)
def cOrT (a b : CT) : CT := fun ρ m => (a ρ m).bind fun p => if p.1 = true then some (true, p.2) else b ρ p.2
theorem lw_and1 {a : Expr} {c : CT} {pos : Pos} (h : LT X a c) : LW X (.BoolOp .And [a] pos) c := by
  obtain ⟨t, pt, ht⟩ := h.ex
  exact ⟨_, pw_and1 pt, ht⟩
theorem lw_or1 {a : Expr} {c : CT} {pos : Pos} (h : LT X a c) : LW X (.BoolOp .Or [a] pos) c := by
  obtain ⟨t, pt, ht⟩ := h.ex
  exact ⟨_, pw_or1 pt, ht⟩
theorem lw_and {a b : Expr} {rest : List Expr} {c d : CT} {pos : Pos} (h : LT X a c) (g : LW X (.BoolOp .And (b :: rest) pos) d) : LW X (.BoolOp .And (a :: b :: rest) pos) (cAndT c d) := by
  obtain ⟨t, pt, ht⟩ := h.ex
  obtain ⟨u, pu, hu⟩ := g.ex
  refine ⟨_, pw_and pt pu, fun ρ m b m' ι σ H Q e r s k => ?_⟩
  unfold cAndT at e
  obtain ⟨⟨x, m1⟩, e1, e⟩ := Option.bind_eq_some_iff.mp e
  refine ht ρ m x m1 ι σ H _ e1 r s fun ι1 H1 g1 r1 => ?_
  cases x with
  | true => exact hu ρ m1 b m' ι1 σ H1 Q e r1 (s.gr r g1) fun ι2 H2 g2 r2 => k ι2 H2 (g1.trans g2) r2
  | false => cases e; exact k ι1 H1 g1 r1
theorem lw_or {a b : Expr} {rest : List Expr} {c d : CT} {pos : Pos} (h : LT X a c) (g : LW X (.BoolOp .Or (b :: rest) pos) d) : LW X (.BoolOp .Or (a :: b :: rest) pos) (cOrT c d) := by
  obtain ⟨t, pt, ht⟩ := h.ex
  obtain ⟨u, pu, hu⟩ := g.ex
  refine ⟨_, pw_or pt pu, fun ρ m b m' ι σ H Q e r s k => ?_⟩
  unfold cOrT at e
  obtain ⟨⟨x, m1⟩, e1, e⟩ := Option.bind_eq_some_iff.mp e
  refine ht ρ m x m1 ι σ H _ e1 r s fun ι1 H1 g1 r1 => ?_
  cases x with
  | false => exact hu ρ m1 b m' ι1 σ H1 Q e r1 (s.gr r g1) fun ι2 H2 g2 r2 => k ι2 H2 (g1.trans g2) r2
  | true => cases e; exact k ι1 H1 g1 r1
theorem LW.lt {e : Expr} {c : CT} (h : LW X e c) : LT X e c := by
  obtain ⟨t, pt, ht⟩ := h.ex
  exact ⟨_, PW.pt pt, ht⟩
def cAndV (a b : CE) : CE := fun ρ m => match a ρ m with
  | some (.bl true, m1) => b ρ m1
  | some (.bl false, m1) => some (.bl false, m1)
  | _ => none
def cOrV (a b : CE) : CE := fun ρ m => match a ρ m with
  | some (.bl true, m1) => some (.bl true, m1)
  | some (.bl false, m1) => b ρ m1
  | _ => none
def cNotV (a : CE) : CE := fun ρ m => match a ρ m with
  | some (.bl b, m1) => some (.bl (!b), m1)
  | _ => none
theorem le_one {a : Expr} {op} {c : CE} {pos : Pos} (h : LE X a c) : LE X (.BoolOp op [a] pos) c := by
  obtain ⟨t, pt, ht⟩ := h.ex
  exact ⟨_, pe_one pt, ht⟩
theorem le_or {a b : Expr} {rest : List Expr} {c d : CE} {pos : Pos} (h : LE X a c) (g : LE X (.BoolOp .Or (b :: rest) pos) d) : LE X (.BoolOp .Or (a :: b :: rest) pos) (cOrV c d) := by
  obtain ⟨t, pt, ht⟩ := h.ex
  obtain ⟨u, pu, hu⟩ := g.ex
  refine ⟨_, pe_or pt pu, fun ρ m b m' ι σ H Q e r s k => ?_⟩
  unfold cOrV at e
  split at e
  · rename_i m1 e1
    cases e
    refine ht ρ m _ m' ι σ H _ e1 r s fun ι1 H1 v g1 r1 h1 => ?_
    cases h1
    refine ⟨true, rfl, ?_⟩
    rw [if_pos rfl]
    exact k ι1 H1 _ g1 r1 (.bl true)
  · rename_i m1 e1
    refine ht ρ m _ m1 ι σ H _ e1 r s fun ι1 H1 v g1 r1 h1 => ?_
    cases h1
    refine ⟨false, rfl, ?_⟩
    rw [if_neg Bool.false_ne_true]
    exact hu ρ m1 b m' ι1 σ H1 Q e r1 (s.gr r g1) fun ι2 H2 v g2 r2 h2 => k ι2 H2 v (g1.trans g2) r2 h2
  · cases e
def cIf (c : CT) (a b : CE) : CE := fun ρ m => (c ρ m).bind fun p => if p.1 = true then a ρ p.2 else b ρ p.2
theorem le_if {c a b : Expr} {cc : CT} {ca cb : CE} {pos : Pos} (hc : LT X c cc) (ha : LE X a ca) (hb : LE X b cb) : LE X (.IfExp c a b pos) (cIf cc ca cb) := by
  obtain ⟨t, pt, ht⟩ := hc.ex
  obtain ⟨u, pu, hu⟩ := ha.ex
  obtain ⟨w, pw, hw⟩ := hb.ex
  refine ⟨_, pe_ifExp pt pu pw, fun ρ m b m' ι σ H Q e r s k => ?_⟩
  unfold cIf at e
  obtain ⟨⟨x, m1⟩, e1, e⟩ := Option.bind_eq_some_iff.mp e
  refine ht ρ m x m1 ι σ H _ e1 r s fun ι1 H1 g1 r1 => ?_
  cases x with
  | true => exact hu ρ m1 b m' ι1 σ H1 Q e r1 (s.gr r g1) fun ι2 H2 v g2 r2 h2 => k ι2 H2 v (g1.trans g2) r2 h2
  | false => exact hw ρ m1 b m' ι1 σ H1 Q e r1 (s.gr r g1) fun ι2 H2 v g2 r2 h2 => k ι2 H2 v (g1.trans g2) r2 h2
end
end L3

set_option Elab.async false
set_option linter.all false
set_option maxRecDepth 100000
namespace L3
open PySem PySem.Spec PyProof.Rows L2
/-! ### plain data of a value -/
def pys (f : D → Option PyData) : List D → Option (List PyData)
  | [] => some []
  | d :: ds => (f d).bind fun p => (pys f ds).bind fun ps => some (p :: ps)
def py : Nat → M → D → Option PyData
  | 0, _, _ => none
  | _ + 1, _, .non => some .none
  | _ + 1, _, .bl b => some (.bool b)
  | _ + 1, _, .int b => some (.int b)
  | _ + 1, _, .str b => some (.str b)
  | n + 1, m, .tup ds => (pys (py n m) ds).map .tuple
  | n + 1, m, .fls ds => (pys (py n m) ds).map .list
  | n + 1, m, .ref i => match m[i]? with
    | some (.lst ds) => (pys (py n m) ds).map .list
    | _ => none
section
variable {K : PySem.W.Frag} {ι : List Addr} {H : Hp} {m : M}
theorem dpAll_of {f : D → Option PyData} : ∀ {ds : List D} {vs : List V} {ps : List PyData}, (∀ d v p, f d = some p → RV K ι H d v → Dp K H v p) → pys f ds = some ps → RVs K ι H ds vs → DpAll K H vs ps
  | [], _, _, h, e, r => by cases r; cases e; exact .nil
  | d :: ds, _, _, h, e, r => by
    cases r with
    | cons r1 r2 =>
      unfold pys at e
      obtain ⟨p, e1, e⟩ := Option.bind_eq_some_iff.mp e
      obtain ⟨ps, e2, e⟩ := Option.bind_eq_some_iff.mp e
      cases e
      exact .cons (h _ _ _ e1 r1) (dpAll_of h e2 r2)
theorem dp_of (rm : RM K ι m H) : ∀ (n : Nat) (d : D) (v : V) (p : PyData), py n m d = some p → RV K ι H d v → Dp K H v p
  | 0, _, _, _, e, _ => by cases e
  | n + 1, _, _, _, e, r => by
    cases r with
    | non => cases e; exact .non
    | bl b => cases e; exact .bl b
    | int b => cases e; exact .int b
    | str b => cases e; exact .str b
    | tup h t =>
      obtain ⟨ps, e1, e⟩ := Option.map_eq_some_iff.mp e
      cases e
      exact .tup h (dpAll_of (dp_of rm n) e1 t)
    | fls h t =>
      obtain ⟨ps, e1, e⟩ := Option.map_eq_some_iff.mp e
      cases e
      exact .lst h.sq (dpAll_of (dp_of rm n) e1 t)
    | ref h =>
      unfold py at e
      split at e
      · rename_i ds e0
        obtain ⟨ps, e1, e⟩ := Option.map_eq_some_iff.mp e
        cases e
        obtain ⟨vs, h1, h2⟩ := rm.ob _ _ _ e0 h
        exact .lst (.of h1) (dpAll_of (dp_of rm n) e1 h2)
      · cases e
end
abbrev PYN : Nat := 50
section
variable {X : Cx}
/-! ### ==, != -/
def fEqD : F2 := fun x y m => match py PYN m x, py PYN m y with
  | some p, some q => if (SeqAt.shaped p && SeqAt.shaped q) = true then some (.bl (PyData.eqv p q), m) else none
  | _, _ => none
def fNeD : F2 := fun x y m => match py PYN m x, py PYN m y with
  | some p, some q => if (SeqAt.shaped p && SeqAt.shaped q) = true then some (.bl (!PyData.eqv p q), m) else none
  | _, _ => none
theorem lop_eqD (hu : X.A.units + 64 < cLine) : LOp X (compareOp .Eq) fEqD := ⟨_, op_eqD hu, fun x y m d m' ι H v w Q e rm rx ry k => by
  unfold fEqD at e
  split at e
  · rename_i p q e1 e2
    split at e
    · rename_i hs
      rw [Bool.and_eq_true] at hs
      cases e
      exact ⟨p, q, dp_of rm _ _ _ _ e1 rx, dp_of rm _ _ _ _ e2 ry, hs.1, hs.2, k ι H _ .refl rm (.bl _)⟩
    · cases e
  · cases e⟩
theorem lop_neD (hu : X.A.units + 64 < cLine) : LOp X (compareOp .NotEq) fNeD := ⟨_, op_neD hu, fun x y m d m' ι H v w Q e rm rx ry k => by
  unfold fNeD at e
  split at e
  · rename_i p q e1 e2
    split at e
    · rename_i hs
      rw [Bool.and_eq_true] at hs
      cases e
      exact ⟨p, q, dp_of rm _ _ _ _ e1 rx, dp_of rm _ _ _ _ e2 ry, hs.1, hs.2, k ι H _ .refl rm (.bl _)⟩
    · cases e
  · cases e⟩
/-- two texts, two ints -/
def fEqS : F2 := fun x y m => match x, y with
  | .str a, .str b => some (.bl (decide (a = b)), m)
  | .int a, .int b => some (.bl (decide (a = b)), m)
  | _, _ => none
def fNeS : F2 := fun x y m => match x, y with
  | .str a, .str b => some (.bl (!decide (a = b)), m)
  | .int a, .int b => some (.bl (!decide (a = b)), m)
  | _, _ => none
theorem dec_str {a b : Str} : decide (V.str a = V.str b) = decide (a = b) := by simp
theorem dec_int {a b : Int} : decide (V.int a = V.int b) = decide (a = b) := by simp
theorem lop_eqS : LOp X (compareOp .Eq) fEqS := ⟨_, op_eq, fun x y m d m' ι H v w Q e rm rx ry k => by
  unfold fEqS at e
  split at e
  · cases e; cases rx; cases ry
    exact ⟨rfl, by rw [dec_str]; exact k ι H _ .refl rm (.bl _)⟩
  · cases e; cases rx; cases ry
    exact ⟨rfl, by rw [dec_int]; exact k ι H _ .refl rm (.bl _)⟩
  · cases e⟩
theorem lop_neS : LOp X (compareOp .NotEq) fNeS := ⟨_, op_ne, fun x y m d m' ι H v w Q e rm rx ry k => by
  unfold fNeS at e
  split at e
  · cases e; cases rx; cases ry
    exact ⟨rfl, by rw [dec_str]; exact k ι H _ .refl rm (.bl _)⟩
  · cases e; cases rx; cases ry
    exact ⟨rfl, by rw [dec_int]; exact k ι H _ .refl rm (.bl _)⟩
  · cases e⟩
def fEq : F2 := fOr fEqS fEqD
def fNe : F2 := fOr fNeS fNeD
theorem lop_eq (hu : X.A.units + 64 < cLine) : LOp X (compareOp .Eq) fEq := lop_eqS.or (lop_eqD hu)
theorem lop_ne (hu : X.A.units + 64 < cLine) : LOp X (compareOp .NotEq) fNe := lop_neS.or (lop_neD hu)
/-- one sign in a text -/
def fInS : F2 := fun x y m => match x, y with
  | .str c, .str z => if h : c.cps.size = 1 then some (.bl (decide (c.cps[0] ∈ z.cps.toList)), m) else none
  | _, _ => none
/-! ### index -/
def ixD : F2 := fun x y m => match x, y with
  | .tup ds, .int i => (atI ds i).bind fun d => some (d, m)
  | .fls ds, .int i => (atI ds i).bind fun d => some (d, m)
  | .str z, .int i => if z.length ≤ sizeLine then (atI z.cps.toList i).bind fun c => some (.str ⟨#[c]⟩, m) else none
  | .ref n, .int i => match m[n]? with
    | some (.lst ds) => (atI ds i).bind fun d => some (d, m)
    | _ => none
  | _, _ => none
theorem atI_rel {K : PySem.W.Frag} {ι : List Addr} {H : Hp} {ds : List D} {vs : List V} {i : Int} {d : D} (h : RVs K ι H ds vs) (e : atI ds i = some d) : ∃ v, atI vs i = some v ∧ RV K ι H d v := by
  unfold atI at e ⊢
  rw [← h.length]
  obtain ⟨j, e1, e2⟩ := Option.bind_eq_some_iff.mp e
  obtain ⟨v, h1, h2⟩ := h.get e2
  exact ⟨v, by rw [e1]; exact h1, h2⟩
theorem ix_any {x y : D} {m : M} {d : D} {m' : M} {ι : List Addr} {H : Hp} {v w : V} {Q : VK} (e : ixD x y m = some (d, m')) (rm : RM X.K ι m H) (rx : RV X.K ι H x v) (ry : RV X.K ι H y w) (k : Ko X.K ι H d m' Q) : rIx X.K v w H Q := by
  unfold ixD at e
  split at e
  · obtain ⟨d, e1, e⟩ := Option.bind_eq_some_iff.mp e
    cases e; cases ry
    cases rx with
    | tup h t =>
      obtain ⟨u, h1, h2⟩ := atI_rel t e1
      exact .inr (.inl ⟨_, _, _, u, rfl, rfl, h, h1, k ι H _ .refl rm h2⟩)
  · obtain ⟨d, e1, e⟩ := Option.bind_eq_some_iff.mp e
    cases e; cases ry
    cases rx with
    | fls h t =>
      obtain ⟨u, h1, h2⟩ := atI_rel t e1
      exact .inl ⟨_, _, _, u, rfl, rfl, h.sq, h1, k ι H _ .refl rm h2⟩
  · split at e
    · rename_i hz
      obtain ⟨c, e1, e⟩ := Option.bind_eq_some_iff.mp e
      cases e; cases ry; cases rx
      exact .inr (.inr ⟨_, _, c, rfl, rfl, hz, e1, k ι H _ .refl rm (.str _)⟩)
    · cases e
  · split at e
    · rename_i ds e0
      obtain ⟨d, e1, e⟩ := Option.bind_eq_some_iff.mp e
      cases e; cases ry
      cases rx with
      | ref h =>
        obtain ⟨vs, a1, b1⟩ := rm.ob _ _ _ e0 h
        obtain ⟨u, h1, h2⟩ := atI_rel b1 e1
        exact .inl ⟨_, _, _, u, rfl, rfl, .of a1, h1, k ι H _ .refl rm h2⟩
    · cases e
  · cases e
theorem le_ix {a b : Expr} {ca cb : CE} {pos : Pos} (ha : LE X a ca) (hb : LE X b cb) (hs : PlainIx b := by exact fun _ _ => rfl) : LE X (.Subscript a b pos) (c2 ixD ca cb) := by
  obtain ⟨ta, pa, ha⟩ := ha.ex
  obtain ⟨tb, pb, hb⟩ := hb.ex
  exact ⟨_, pe_ix ix_seq pa pb hs, fun ρ m d m' ι σ H Q e rm s k => two ha hb (fun x y m d m' ι H v w Q e rm rx ry k => ix_any e rm rx ry k) e rm s k⟩
/-! ### slices -/
abbrev CO := En → M → Option (Option Int × M)
structure LO (X : Cx) (e : Option Expr) (c : CO) : Prop where
  ex : ∃ t, PO X e t ∧ ∀ (ρ : En) (m : M) (o : Option Int) (m' : M) (ι : List Addr) (σ : L2.St) (H : Hp) (Q : Option Int → Hp → Prop), c ρ m = some (o, m') → RM X.K ι m H → RS X.K ι H σ ρ → Kt X.K ι H m' (Q o) → t σ H Q
def cNoPart : CO := fun _ m => some (none, m)
def cPart (c : CE) : CO := fun ρ m => match c ρ m with
  | some (.int i, m') => some (some i, m')
  | _ => none
theorem lo_none : LO X none cNoPart := ⟨_, po_none, fun ρ m d m' ι σ H Q e r s k => by cases e; exact k ι H .refl r⟩
theorem lo_some {e : Expr} {c : CE} (h : LE X e c) : LO X (some e) (cPart c) := by
  obtain ⟨t, pt, ht⟩ := h.ex
  refine ⟨_, po_some pt, fun ρ m o m' ι σ H Q e r s k => ?_⟩
  unfold cPart at e
  split at e
  · rename_i i m1 e1
    cases e
    refine ht ρ m _ m' ι σ H _ e1 r s fun ι1 H1 v g1 r1 h1 => ?_
    cases h1
    exact ⟨i, rfl, k ι1 H1 g1 r1⟩
  · cases e
def cutD (xs : List D) (lo hi : Option Int) : List D := (xs.drop (HT.sIx xs.length 0 lo)).take (HT.sIx xs.length xs.length hi - HT.sIx xs.length 0 lo)
theorem RVs.cut {K : PySem.W.Frag} {ι : List Addr} {H : Hp} {ds : List D} {vs : List V} (h : RVs K ι H ds vs) (lo hi : Option Int) : RVs K ι H (cutD ds lo hi) (cutV vs lo hi) := by
  unfold cutD cutV
  rw [h.length]
  exact (h.drop _).take _
/-- the whole tuple is itself -/
theorem getItem_tuple_whole {prog : Program} {w : World} {A : Around} {E : Value → Shared → Prop} {s : Shared} {t sl : Addr} {items : Array Value} {vl vu : Value} {lo hi : Option Int} {Q : Value → Shared → Prop} (ht : IsTup s.heap t items) (hs : s.heap.IsSliceOf sl vl vu .none) (pl : IsPart vl lo) (pu : IsPart vu hi)
    (hw : HT.sIx items.size 0 lo = 0 ∧ HT.sIx items.size items.size hi = items.size) (h : Q (.ref t) s) : wpAny (model prog w) A (getItem (.ref t) (.ref sl)) Q E s := by
  obtain ⟨os, hos, hcs, hds⟩ := id hs
  have hTs : s.TypeIs (.ref sl) "slice" := ⟨os, hos, hcs⟩
  unfold getItem
  try with_reducible refine wpAny_holding ?_
  first | refine wpAny_bind (wpAny_pure ?_) | skip
  refine wpAny_bind (wpAny_sequenceKey ht.typeIs (by decide) ?_)
  refine wpAny_bind (wpAny_callSpecial?_slot (name := Str.ofString "__getitem__") ht.typeIs PyProof.Rows.slot_tuple_getitem
    (wpAny_call_entry PyProof.Rows.slot_tuple_getitem ht.typeIs entry_tuple_getitem ?_ (args_tuple_getitem _ _)))
  show wpAny _ _ (Builtin.Tuple.tupleItemsOf (.ref t) >>= _) _ _ s
  refine wpAny_bind (tupleItemsOf_ ht ?_)
  refine wpAny_bind (wpAny_typeOf hTs ?_)
  rw [if_pos (by decide)]
  refine wpAny_bind (HT.sliceApplied_gen hs pl pu ?_)
  have hyes : (((HT.sIx items.size 0 lo : Nat) : Int) == 0 && (1 : Int) == 1 && (HT.sIx items.size items.size hi - HT.sIx items.size 0 lo) == items.size) = true := by
    rw [hw.1, hw.2]; simp
  show wpAny _ _ (if (((HT.sIx items.size 0 lo : Nat) : Int) == 0 && (1 : Int) == 1 && (HT.sIx items.size items.size hi - HT.sIx items.size 0 lo) == items.size) = true then _ else _) _ _ s
  rw [if_pos hyes]
  refine wpAny_bind (m := Builtin.Tuple.tupleIsExact _) (wpAny_bind (wpAny_typeOf ht.typeIs (wpAny_pure ?_)))
  rw [if_pos (by decide)]
  first
    | exact wpAny_bind (wpAny_rule (wpAny_pure ⟨_, rfl, wpAny_pure h⟩))
    | exact wpAny_bind (wpAny_rule (wpAny_bind (wpAny_pure (wpAny_pure ⟨_, rfl, wpAny_pure h⟩))))
    | exact wpAny_bind (wpAny_rule (wpAny_bind (wpAny_pure ⟨_, rfl, wpAny_pure h⟩)))
    | (wp_walk; exact ⟨_, rfl, wpAny_pure h⟩)
end
end L3

set_option Elab.async false
set_option linter.all false
set_option maxRecDepth 100000
namespace L3
open PySem PySem.Spec PyProof.Rows L2
section
variable {X : Cx}
def rSlW (K : PySem.W.Frag) : V → Option Int → Option Int → Hp → VK → Prop := fun x lo hi H Q => ∃ a xs, x = .ref a ∧ SqT K H a xs ∧
  (HT.sIx xs.length 0 lo = 0 ∧ HT.sIx xs.length xs.length hi = xs.length) ∧ Q (.ref a) H
theorem sl_whole : SlR X (rSlW X.K) := by
  intro pins s σ H x v vl vu lo hi sl Q I rx hs pl pu h
  obtain ⟨a, xs, rfl, hx, hw, q⟩ := h
  cases rx
  obtain ⟨its, r, ht, hz⟩ := I.tuple hx
  have hlen : its.toArray.size = xs.length := by rw [List.size_toArray]; exact r.length.symm
  refine ⟨"tuple", _, PyProof.Rows.slot_tuple_getitem.lookup, ht.typeIs, ?_⟩
  exact getItem_tuple_whole ht hs pl pu (by rw [hlen]; exact hw) ⟨.ref a, H, I, rfl, q⟩
def slD (x : D) (lo hi : Option Int) (m : M) : Option (D × M) := match x with
  | .tup ds => some (.tup (cutD ds lo hi), m)
  | .str z => if z.length ≤ sizeLine then some (.str (cutS z lo hi), m) else none
  | .fls ds => some (.ref m.length, m ++ [.lst (cutD ds lo hi)])
  | .ref n => match m[n]? with
    | some (.lst ds) => some (.ref m.length, m ++ [.lst (cutD ds lo hi)])
    | _ => none
  | _ => none
theorem sl_any {x : D} {lo hi : Option Int} {m : M} {d : D} {m' : M} {ι : List Addr} {H : Hp} {v : V} {Q : VK} (e : slD x lo hi m = some (d, m')) (rm : RM X.K ι m H) (rx : RV X.K ι H x v) (k : Ko X.K ι H d m' Q) :
    rSlT X.K v lo hi H Q ∨ rSlW X.K v lo hi H Q ∨ rSlL X.K v lo hi H Q ∨ rSlS v lo hi H Q := by
  unfold slD at e
  split at e
  · rename_i ds
    cases e
    cases rx with
    | @tup a vs _ h t =>
      by_cases hw : HT.sIx vs.length 0 lo = 0 ∧ HT.sIx vs.length vs.length hi = vs.length
      · refine .inr (.inl ⟨_, _, rfl, h, hw, k ι H _ .refl rm ?_⟩)
        have : cutD ds lo hi = ds := by
          unfold cutD
          rw [t.length, hw.1, hw.2, List.drop_zero, Nat.sub_zero, ← t.length, List.take_length]
        rw [this]
        exact .tup h t
      · exact .inl ⟨_, _, rfl, h, hw, ko_tup rm (t.cut lo hi) k⟩
  · split at e
    · rename_i hz
      cases e; cases rx
      exact .inr (.inr (.inr ⟨_, rfl, hz, k ι H _ .refl rm (.str _)⟩))
    · cases e
  · cases e
    cases rx with
    | fls h t => exact .inr (.inr (.inl ⟨_, _, rfl, h.sq, ko_lst rm (t.cut lo hi) k⟩))
  · split at e
    · rename_i ds e0
      cases e
      cases rx with
      | ref h =>
        obtain ⟨vs, a1, b1⟩ := rm.ob _ _ _ e0 h
        exact .inr (.inr (.inl ⟨_, _, rfl, .of a1, ko_lst rm (b1.cut lo hi) k⟩))
    · cases e
  · cases e
def cSl (c : CE) (l h : CO) : CE := fun ρ m => (c ρ m).bind fun p => (l ρ p.2).bind fun q => (h ρ q.2).bind fun r => slD p.1 q.1 r.1 r.2
theorem le_slice {a : Expr} {lo hi : Option Expr} {c : CE} {l h : CO} {pos p2 : Pos} (ha : LE X a c) (hl : LO X lo l) (hh : LO X hi h) : LE X (.Subscript a (.Slice lo hi none p2) pos) (cSl c l h) := by
  obtain ⟨ta, pa, ha⟩ := ha.ex
  obtain ⟨tl, pl, hl⟩ := hl.ex
  obtain ⟨th, ph, hh⟩ := hh.ex
  refine ⟨_, pe_slice (sl_tup.or (sl_whole.or (sl_list.or sl_str))) pa pl ph, fun ρ m d m' ι σ H Q e rm s k => ?_⟩
  unfold cSl at e
  obtain ⟨⟨x, m1⟩, e1, e⟩ := Option.bind_eq_some_iff.mp e
  obtain ⟨⟨y, m2⟩, e2, e⟩ := Option.bind_eq_some_iff.mp e
  obtain ⟨⟨z, m3⟩, e3, e⟩ := Option.bind_eq_some_iff.mp e
  refine ha ρ m x m1 ι σ H _ e1 rm s fun ι1 H1 v g1 r1 h1 => ?_
  refine hl ρ m1 y m2 ι1 σ H1 _ e2 r1 (s.gr rm g1) fun ι2 H2 g2 r2 => ?_
  refine hh ρ m2 z m3 ι2 σ H2 _ e3 r2 ((s.gr rm g1).gr r1 g2) fun ι3 H3 g3 r3 => ?_
  exact sl_any e r3 ((h1.gr r1 g2).gr r2 g3) fun ι' H' v g r h => k ι' H' v (((g1.trans g2).trans g3).trans g) r h

/-! ### t[::-1] of a tuple -/
def tRevT (K : PySem.W.Frag) (te ts : TE) : TE := fun σ H Q => te σ H fun x H1 => ts σ H1 fun y H2 => ∃ a xs, x = .ref a ∧ y = .int (-1) ∧ SqT K H2 a xs ∧ ∀ p, H2 p = none → Q (.ref p) (upd H2 p (.tup xs.reverse))
def cRevT (c s : CE) : CE := fun ρ m => (c ρ m).bind fun p => (s ρ p.2).bind fun q => match p.1, q.1 with
  | .tup ds, .int (-1) => some (.tup ds.reverse, q.2)
  | _, _ => none
def cNeg (c : CE) : CE := fun ρ m => match c ρ m with
  | some (.int i, m') => some (.int (-i), m')
  | _ => none
theorem le_neg {a : Expr} {c : CE} {pos : Pos} (ha : LE X a c) : LE X (.UnaryOp .USub a pos) (cNeg c) := by
  obtain ⟨ta, pa, ha⟩ := ha.ex
  refine ⟨_, pe_un un_neg pa, fun ρ m d m' ι σ H Q e rm s k => ?_⟩
  unfold cNeg at e
  split at e
  · rename_i i m1 e1
    cases e
    refine ha ρ m _ m' ι σ H _ e1 rm s fun ι1 H1 v g1 r1 h1 => ?_
    cases h1
    exact ⟨i, rfl, k ι1 H1 _ g1 r1 (.int _)⟩
  · cases e
end
end L3

set_option Elab.async false
set_option linter.all false
set_option maxRecDepth 100000
namespace L3
open PySem PySem.Spec PyProof.Rows L2
section
variable {X : Cx}
/-! ### built-in calls -/
abbrev F1 := List D → M → Option (D × M)
structure LC (X : Cx) (f : Value) (g : F1) : Prop where
  ex : ∃ r, CallR X f r ∧ ∀ (ds : List D) (m : M) (d : D) (m' : M) (ι : List Addr) (H : Hp) (vs : List V) (Q : VK), g ds m = some (d, m') → RM X.K ι m H → RVs X.K ι H ds vs → Ko X.K ι H d m' Q → r vs H Q
def cCall (g : F1) (cs : CA) : CE := fun ρ m => (cs ρ m).bind fun p => g p.1 p.2
theorem le_callB {id : String} {x : Str} {e : Expr} {es : List Expr} {g : F1} {cs : CA} {p pos : Pos} (h : LC X (.builtin id) g) (hg : Gl X x) (hm : X.mg x = none) (hv : bootBuiltins x = some (.builtin id)) (ha : LA X (e :: es) cs) (hn : x ≠ "__name__" := by decide) (hdb : (x == ("__debug__" : Str)) = false := by decide)
    (he : starEach (e :: es) X.env = (false, eval e X.env) :: starEach es X.env := by rfl) (hpl : (backTo pos (starEach es X.env)).any (·.1) = false := by rfl) : LE X (.Call (.Name x p) (e :: es) [] pos) (cCall g cs) := by
  obtain ⟨r, pr, hr⟩ := h.ex
  obtain ⟨t, pt, ht⟩ := ha.ex
  refine ⟨_, pe_callB pr hg hm hv pt hn hdb he hpl, fun ρ m d m' ι σ H Q e rm s k => ?_⟩
  unfold cCall at e
  obtain ⟨⟨ds, m1⟩, e1, e⟩ := Option.bind_eq_some_iff.mp e
  refine ht ρ m ds m1 ι σ H _ e1 rm s fun ι1 H1 vs g1 r1 h1 => ?_
  exact hr ds m1 d m' ι1 H1 vs Q e r1 h1 fun ι' H' v g r h => k ι' H' v (g1.trans g) r h
theorem le_callTy {T : String} {x : Str} {e : Expr} {es : List Expr} {g : F1} {cs : CA} {p pos : Pos} (h : LC X (.type T) g) (hg : Gl X x) (hm : X.mg x = none) (hv : bootBuiltins x = some (.type T)) (ha : LA X (e :: es) cs) (hn : x ≠ "__name__" := by decide) (hdb : (x == ("__debug__" : Str)) = false := by decide)
    (he : starEach (e :: es) X.env = (false, eval e X.env) :: starEach es X.env := by rfl) (hpl : (backTo pos (starEach es X.env)).any (·.1) = false := by rfl) : LE X (.Call (.Name x p) (e :: es) [] pos) (cCall g cs) := by
  obtain ⟨r, pr, hr⟩ := h.ex
  obtain ⟨t, pt, ht⟩ := ha.ex
  refine ⟨_, pe_callTy pr hg hm hv pt hn hdb he hpl, fun ρ m d m' ι σ H Q e rm s k => ?_⟩
  unfold cCall at e
  obtain ⟨⟨ds, m1⟩, e1, e⟩ := Option.bind_eq_some_iff.mp e
  refine ht ρ m ds m1 ι σ H _ e1 rm s fun ι1 H1 vs g1 r1 h1 => ?_
  exact hr ds m1 d m' ι1 H1 vs Q e r1 h1 fun ι' H' v g r h => k ι' H' v (g1.trans g) r h
/-- one argument -/
def f1 (f : D → M → Option (D × M)) : F1 := fun ds m => match ds with
  | [d] => f d m
  | _ => none
theorem lc_one {f : Value} {r : List V → Hp → VK → Prop} {g : D → M → Option (D × M)} (h : CallR X f r)
    (hr : ∀ (x : D) (m : M) (d : D) (m' : M) (ι : List Addr) (H : Hp) (v : V) (Q : VK), g x m = some (d, m') → RM X.K ι m H → RV X.K ι H x v → Ko X.K ι H d m' Q → r [v] H Q) : LC X f (f1 g) :=
  ⟨_, h, fun ds m d m' ι H vs Q e rm rs k => by
    unfold f1 at e
    split at e
    · cases rs with
      | cons h t => cases t; exact hr _ _ _ _ _ _ _ _ e rm h k
    · cases e⟩
def lenD (x : D) (m : M) : Option (D × M) := match x with
  | .str y => if y.length ≤ sizeLine then some (.int y.length, m) else none
  | .tup ds => some (.int ds.length, m)
  | .fls ds => some (.int ds.length, m)
  | .ref n => match m[n]? with
    | some (.lst ds) => some (.int ds.length, m)
    | _ => none
  | _ => none
theorem lc_len : LC X (.builtin "len") (f1 lenD) := lc_one call_len fun x m d m' ι H v Q e rm rx k => by
  unfold lenD at e
  split at e
  · split at e
    · rename_i hz
      cases e; cases rx
      exact ⟨_, _, rfl, ⟨hz, rfl⟩, k ι H _ .refl rm (.int _)⟩
    · cases e
  · cases e
    cases rx with
    | tup h t => exact ⟨_, _, rfl, .inr ⟨_, h, rfl⟩, k ι H _ .refl rm (by rw [t.length]; exact .int _)⟩
  · cases e
    cases rx with
    | fls h t => exact ⟨_, _, rfl, .inl ⟨_, h.sq, rfl⟩, k ι H _ .refl rm (by rw [t.length]; exact .int _)⟩
  · split at e
    · rename_i ds e0
      cases e
      cases rx with
      | ref h =>
        obtain ⟨vs, a1, b1⟩ := rm.ob _ _ _ e0 h
        exact ⟨_, _, rfl, .inl ⟨_, .of a1, rfl⟩, k ι H _ .refl rm (by rw [b1.length]; exact .int _)⟩
    · cases e
  · cases e
theorem callR_or {f : Value} {r r' : List V → Hp → VK → Prop} (h : CallR X f r) (h' : CallR X f r') : CallR X f (fun xs H Q => r xs H Q ∨ r' xs H Q) := by
  intro pins s σ H xs us Q I rx q
  rcases q with q | q
  · exact h pins s σ H xs us Q I rx q
  · exact h' pins s σ H xs us Q I rx q
def strD (x : D) (m : M) : Option (D × M) := match x with
  | .int i => if i.natAbs.log2 < 1920 then some (.str (toString i), m) else none
  | .bl b => some (.str (if b then "True" else "False"), m)
  | _ => none
def ordD (x : D) (m : M) : Option (D × M) := match x with
  | .str z => if z.length = 1 then some (.int (z.cps.getD 0 0 : Nat), m) else none
  | _ => none
/-- the items of a list or a tuple -/
def itemsD (x : D) (m : M) : Option (List D) := match x with
  | .tup ds => some ds
  | .fls ds => some ds
  | .ref n => match m[n]? with
    | some (.lst ds) => some ds
    | _ => none
  | _ => none
theorem items_of {K : PySem.W.Frag} {ι : List Addr} {H : Hp} {m : M} {x : D} {v : V} {ds : List D} (rm : RM K ι m H) (rx : RV K ι H x v) (e : itemsD x m = some ds) : ∃ a vs, v = .ref a ∧ (SqL K H a vs ∨ SqT K H a vs) ∧ RVs K ι H ds vs := by
  unfold itemsD at e
  split at e
  · cases e
    cases rx with
    | tup h t => exact ⟨_, _, rfl, .inr h, t⟩
  · cases e
    cases rx with
    | fls h t => exact ⟨_, _, rfl, .inl h.sq, t⟩
  · split at e
    · rename_i e0
      cases e
      cases rx with
      | ref h =>
        obtain ⟨vs, a1, b1⟩ := rm.ob _ _ _ e0 h
        exact ⟨_, _, rfl, .inl (.of a1), b1⟩
    · cases e
  · cases e
def listD (x : D) (m : M) : Option (D × M) := (itemsD x m).bind fun ds => some (.ref m.length, m ++ [.lst ds])
theorem lc_list : LC X (.type "list") (f1 listD) := lc_one call_list_of fun x m d m' ι H v Q e rm rx k => by
  unfold listD at e
  obtain ⟨ds, e1, e⟩ := Option.bind_eq_some_iff.mp e
  cases e
  obtain ⟨a, vs, rfl, h, t⟩ := items_of rm rx e1
  exact ⟨a, vs, rfl, h, ko_lst rm t k⟩
def tupleD (x : D) (m : M) : Option (D × M) := (itemsD x m).bind fun ds => some (.tup ds, m)
theorem lc_tuple : LC X (.type "tuple") (f1 tupleD) := lc_one call_tuple_of fun x m d m' ι H v Q e rm rx k => by
  unfold tupleD at e
  obtain ⟨ds, e1, e⟩ := Option.bind_eq_some_iff.mp e
  cases e
  obtain ⟨a, vs, rfl, h, t⟩ := items_of rm rx e1
  rcases h with h | h
  · exact ⟨a, vs, rfl, .inl ⟨h, ko_tup rm t k⟩⟩
  · exact ⟨a, vs, rfl, .inr ⟨h, k ι H _ .refl rm (.tup h t)⟩⟩
def blsD : List D → Option (List Bool)
  | [] => some []
  | .bl b :: ds => (blsD ds).map (b :: ·)
  | _ :: _ => none
def lstD (x : D) (m : M) : Option (List D) := match x with
  | .ref n => match m[n]? with
    | some (.lst ds) => some ds
    | _ => none
  | _ => none
theorem lst_of {K : PySem.W.Frag} {ι : List Addr} {H : Hp} {m : M} {x : D} {v : V} {ds : List D} (rm : RM K ι m H) (rx : RV K ι H x v) (e : lstD x m = some ds) : ∃ n a vs, x = .ref n ∧ ι[n]? = some a ∧ v = .ref a ∧ H a = some (.lst vs) ∧ RVs K ι H ds vs := by
  unfold lstD at e
  split at e
  · split at e
    · rename_i e0
      cases e
      cases rx with
      | ref h =>
        obtain ⟨vs, a1, b1⟩ := rm.ob _ _ _ e0 h
        exact ⟨_, _, _, rfl, h, rfl, a1, b1⟩
    · cases e
  · cases e
def allD (x : D) (m : M) : Option (D × M) := (lstD x m).bind fun ds => (blsD ds).bind fun bs => some (.bl (bs.all id), m)
/-! ### repr -/
def rRepr (K : PySem.W.Frag) : List V → Hp → VK → Prop := fun xs H Q => ∃ a p, xs = [.ref a] ∧ Dp K H (.ref a) p ∧ p.showable = true ∧ p.hasDict = false ∧ p.depth ≤ 60 ∧ p.shown.length ≤ sizeLine ∧ Q (.str p.shown) H
theorem cr_repr (hg : X.A.guards = some []) (hu : X.A.units + 64 < cLine) : CallR X (.builtin "repr") (rRepr X.K) := by
  intro pins s σ H vs us Q I r h
  obtain ⟨a, p, rfl, hd, hs, hh, hz, hl, q⟩ := h
  cases r with
  | cons r1 r2 =>
    cases r2
    cases r1
    obtain ⟨as, hr⟩ := Dp.reads I p _ _ hd (show RelV (.ref a) (Value.ref a) from rfl)
    refine repr_of_reads' (h₀ := s.heap) hr hs (fun z => by rw [hh] at z; cases z) hg (by omega) (fun _ _ e => e) (fun h' u tk hk => ?_) hl
    exact ⟨.str p.shown, H, I.kept (t' := tk) hk, ⟨u, rfl⟩, q⟩
def reprD (x : D) (m : M) : Option (D × M) := match x with
  | .tup _ | .fls _ | .ref _ => match py PYN m x with
    | some p => if (p.showable && !p.hasDict && decide (p.depth ≤ 60) && decide (p.shown.length ≤ sizeLine)) = true then some (.str p.shown, m) else none
    | none => none
  | _ => none
theorem lc_repr (hg : X.A.guards = some []) (hu : X.A.units + 64 < cLine) : LC X (.builtin "repr") (f1 reprD) := lc_one (cr_repr hg hu) fun x m d m' ι H v Q e rm rx k => by
  have key : ∀ p, py PYN m x = some p → (∃ a, v = .ref a) → (if (p.showable && !p.hasDict && decide (p.depth ≤ 60) && decide (p.shown.length ≤ sizeLine)) = true then some (D.str p.shown, m) else none) = some (d, m') → rRepr X.K [v] H Q := by
    intro p e1 ⟨a, hv⟩ e
    split at e
    · rename_i hs
      simp only [Bool.and_eq_true, Bool.not_eq_true', decide_eq_true_eq] at hs
      cases e
      subst hv
      exact ⟨a, p, rfl, dp_of rm _ _ _ _ e1 rx, hs.1.1.1, hs.1.1.2, hs.1.2, hs.2, k ι H _ .refl rm (.str _)⟩
    · cases e
  unfold reprD at e
  split at e
  · split at e
    · rename_i p e1
      exact key p e1 (by cases rx; exact ⟨_, rfl⟩) e
    · cases e
  · split at e
    · rename_i p e1
      exact key p e1 (by cases rx; exact ⟨_, rfl⟩) e
    · cases e
  · split at e
    · rename_i p e1
      exact key p e1 (by cases rx; exact ⟨_, rfl⟩) e
    · cases e
  · cases e
end
end L3

set_option Elab.async false
set_option linter.all false
set_option maxRecDepth 100000
namespace L3
open PySem PySem.Spec PyProof.Rows L2
section
variable {X : Cx}
/-! ### isinstance(x, T), T a built-in class -/
inductive Ty2 (K : PySem.W.Frag) (H : Hp) : V → String → Prop where
  | non : Ty2 K H .non "NoneType"
  | bl (x : Bool) : Ty2 K H (.bl x) "bool"
  | int (i : Int) : Ty2 K H (.int i) "int"
  | str (x : Str) : Ty2 K H (.str x) "str"
  | lst {a : Addr} {xs : List V} (e : SqL K H a xs) : Ty2 K H (.ref a) "list"
  | tup {a : Addr} {xs : List V} (e : SqT K H a xs) : Ty2 K H (.ref a) "tuple"
  | dK {a : Addr} {kvs : List (Key × V)} (e : H a = some (.dK kvs)) : Ty2 K H (.ref a) "dict"
def rIsi (K : PySem.W.Frag) : List V → Hp → VK → Prop := fun xs H Q => ∃ x n ty b, xs = [x, .ty n] ∧ Ty2 K H x ty ∧ PySem.W.kitOne K (.type ty) (.type n) = some b ∧ Q (.bl b) H
theorem cr_isi : CallR X (.builtin "isinstance") (rIsi X.K) := by
  intro pins s σ H vs us Q I r h
  obtain ⟨x, n, ty, b, rfl, ht, e, q⟩ := h
  cases r with
  | cons rx r2 =>
    cases r2 with
    | cons ry r3 =>
      cases r3
      cases (show _ = Value.type n from ry)
      have fin : ∀ tk, EP X pins σ Q (.bool b) { s with toks := tk } := fun tk => ⟨.bl b, H, I.tok tk, rfl, q⟩
      cases ht with
      | non => exact isinst_ok I rx (.non) e fin
      | bl y => exact isinst_ok I rx (.bl y) e fin
      | int i => exact isinst_ok I rx (.int i) e fin
      | str y => exact isinst_ok I rx (.str y) e fin
      | @lst a xs hs =>
        cases (show _ = Value.ref a from rx)
        obtain ⟨its, _, ⟨o, n, h1, h2, _⟩, _⟩ := I.list hs
        exact PySem.W.kia_one PySem.W.kitx_list I.kIn ⟨o, h1, h2⟩ e (fun z => nomatch z) fin
      | @tup a xs hs =>
        cases (show _ = Value.ref a from rx)
        obtain ⟨its, _, ⟨o, h1, h2, _⟩, _⟩ := I.tuple hs
        exact PySem.W.kia_one PySem.W.kitx_tuple I.kIn ⟨o, h1, h2⟩ e (fun z => nomatch z) fin
      | dK hk => exact isinst_ok I rx (.dK hk) e fin
def tyD (x : D) (m : M) : Option String := match x with
  | .non => some "NoneType"
  | .bl _ => some "bool"
  | .int _ => some "int"
  | .str _ => some "str"
  | .tup _ => some "tuple"
  | .fls _ => some "list"
  | .ref n => match m[n]? with
    | some (.lst _) => some "list"
    | some (.dic _) => some "dict"
    | _ => none
theorem ty_of {K : PySem.W.Frag} {ι : List Addr} {H : Hp} {m : M} {x : D} {v : V} {t : String} (rm : RM K ι m H) (rx : RV K ι H x v) (e : tyD x m = some t) : Ty2 K H v t := by
  cases rx with
  | non => cases e; exact .non
  | bl b => cases e; exact .bl b
  | int b => cases e; exact .int b
  | str b => cases e; exact .str b
  | tup h _ => cases e; exact .tup h
  | fls h _ => cases e; exact .lst h.sq
  | ref h =>
    unfold tyD at e
    simp only at e
    split at e
    · rename_i e0
      cases e
      obtain ⟨vs, a1, _⟩ := rm.ob _ _ _ e0 h
      exact .lst (.of a1)
    · rename_i e0
      cases e
      obtain ⟨vs, a1, _⟩ := rm.ob _ _ _ e0 h
      exact .dK a1
    · cases e
def kit (t n : String) : Bool := t == n || (t == "bool" && n == "int")
theorem kit_of (K : PySem.W.Frag) {t n : String} (ht : t ∈ ["NoneType", "bool", "int", "str", "tuple", "list", "dict"]) (hn : n ∈ ["bool", "int", "str", "tuple", "list", "dict"]) : PySem.W.kitOne K (.type t) (.type n) = some (kit t n) := by
  simp only [List.mem_cons, List.mem_nil_iff, or_false] at ht hn
  rcases ht with rfl | rfl | rfl | rfl | rfl | rfl | rfl <;> rcases hn with rfl | rfl | rfl | rfl | rfl | rfl <;> kernel_rfl
theorem tyD_mem {x : D} {m : M} {t : String} (e : tyD x m = some t) : t ∈ ["NoneType", "bool", "int", "str", "tuple", "list", "dict"] := by
  unfold tyD at e
  split at e
  all_goals first | (cases e; decide) | skip
  split at e
  all_goals (cases e <;> decide)
def cIsi (n : String) (c : CE) : CE := fun ρ m => (c ρ m).bind fun p => (tyD p.1 p.2).bind fun t => some (.bl (kit t n), p.2)
theorem le_isi {n : String} {x : Str} {a : Expr} {c : CE} {p p2 pos : Pos} (ha : LE X a c) (hg : Gl X "isinstance") (hm : X.mg "isinstance" = none) (hg2 : Gl X x) (hm2 : X.mg x = none) (hv2 : bootBuiltins x = some (.type n)) (hn : n ∈ ["bool", "int", "str", "tuple", "list", "dict"] := by decide)
    (hx : x ≠ "__name__" := by decide) (hd : (x == ("__debug__" : Str)) = false := by decide)
    (he : starEach (a :: [.Name x p2]) X.env = (false, eval a X.env) :: starEach [.Name x p2] X.env := by rfl) (he2 : starEach [.Name x p2] X.env = (false, eval (.Name x p2) X.env) :: starEach [] X.env := by rfl)
    (hpl : (backTo pos (starEach [.Name x p2] X.env)).any (·.1) = false := by rfl) : LE X (.Call (.Name "isinstance" p) [a, .Name x p2] [] pos) (cIsi n c) := by
  obtain ⟨t, pt, ht⟩ := ha.ex
  refine ⟨_, pe_callB cr_isi hg hm (by decide +kernel) (pa_cons pt (pa_cons (pe_bltn (v := .ty n) hg2 hm2 hv2 rfl hx hd) pa_nil he2) he) (by decide) (by decide) he hpl, fun ρ m d m' ι σ H Q e rm s k => ?_⟩
  unfold cIsi at e
  obtain ⟨⟨x, m1⟩, e1, e⟩ := Option.bind_eq_some_iff.mp e
  obtain ⟨ty, e2, e⟩ := Option.bind_eq_some_iff.mp e
  cases e
  refine ht ρ m x m1 ι σ H _ e1 rm s fun ι1 H1 v g1 r1 h1 => ?_
  exact ⟨v, n, ty, _, rfl, ty_of r1 h1 e2, kit_of X.K (tyD_mem e2) hn, k ι1 H1 _ g1 r1 (.bl _)⟩

/-! ### dicts -/
def valD (kvs : List (Key × D)) (k : Key) : Option D := (kvs.find? fun kv => decide (kv.1 = k)).map (·.2)
def putD (kvs : List (Key × D)) (k : Key) (v : D) : List (Key × D) :=
  if (kvs.any fun kv => decide (kv.1 = k)) = true then kvs.map (fun kv => if kv.1 = k then (kv.1, v) else kv) else kvs ++ [(k, v)]
def keyD : D → Option Key
  | .int i => some (.inl i)
  | .str x => some (.inr x)
  | _ => none
theorem key_of {K : PySem.W.Frag} {ι : List Addr} {H : Hp} {x : D} {v : V} {k : Key} (rx : RV K ι H x v) (e : keyD x = some k) : v = kV k := by
  cases rx <;> cases e <;> rfl
section
variable {K : PySem.W.Frag} {ι : List Addr} {H : Hp}
theorem RKV.length : ∀ {ps : List (Key × D)} {qs : List (Key × V)}, RKV K ι H ps qs → ps.length = qs.length
  | [], [], _ => rfl
  | [], _ :: _, h => h.elim
  | _ :: _, [], h => h.elim
  | _ :: _, _ :: _, ⟨_, _, h3⟩ => congrArg (· + 1) (RKV.length h3)
theorem RKV.val : ∀ {ps : List (Key × D)} {qs : List (Key × V)} {k : Key} {d : D}, RKV K ι H ps qs → valD ps k = some d → ∃ v, valV qs k = some v ∧ RV K ι H d v
  | [], [], _, _, _, e => by cases e
  | [], _ :: _, _, _, h, _ => h.elim
  | _ :: _, [], _, _, h, _ => h.elim
  | (k1, d1) :: ps, (k2, v2) :: qs, k, d, ⟨h1, h2, h3⟩, e => by
    simp only at h1 h2
    subst h1
    unfold valD at e
    unfold valV
    rw [List.find?_cons] at e ⊢
    by_cases hk : k1 = k
    · simp only [hk, decide_true, Option.map_some] at e ⊢
      cases e
      exact ⟨v2, rfl, h2⟩
    · simp only [hk, decide_false] at e ⊢
      exact RKV.val h3 e
theorem RKV.any : ∀ {ps : List (Key × D)} {qs : List (Key × V)} (k : Key), RKV K ι H ps qs → (ps.any fun kv => decide (kv.1 = k)) = qs.any fun kv => decide (kv.1 = k)
  | [], [], _, _ => rfl
  | [], _ :: _, _, h => h.elim
  | _ :: _, [], _, h => h.elim
  | _ :: _, _ :: _, k, ⟨h1, _, h3⟩ => by rw [List.any_cons, List.any_cons, RKV.any k h3, h1]
theorem RKV.app : ∀ {ps ps' : List (Key × D)} {qs qs' : List (Key × V)}, RKV K ι H ps qs → RKV K ι H ps' qs' → RKV K ι H (ps ++ ps') (qs ++ qs')
  | [], _, [], _, _, g => g
  | [], _, _ :: _, _, h, _ => h.elim
  | _ :: _, _, [], _, h, _ => h.elim
  | _ :: _, _, _ :: _, _, ⟨h1, h2, h3⟩, g => ⟨h1, h2, RKV.app h3 g⟩
theorem RKV.map {k : Key} {d : D} {v : V} (r : RV K ι H d v) : ∀ {ps : List (Key × D)} {qs : List (Key × V)}, RKV K ι H ps qs → RKV K ι H (ps.map fun kv => if kv.1 = k then (kv.1, d) else kv) (qs.map fun kv => if kv.1 = k then (kv.1, v) else kv)
  | [], [], _ => trivial
  | [], _ :: _, h => h.elim
  | _ :: _, [], h => h.elim
  | (k1, d1) :: ps, (k2, v2) :: qs, ⟨h1, h2, h3⟩ => by
    simp only at h1 h2
    subst h1
    rw [List.map_cons, List.map_cons]
    refine ⟨?_, ?_, RKV.map r h3⟩ <;> by_cases hk : k1 = k <;> simp only [hk, if_true, if_false] <;> assumption
theorem RKV.put {k : Key} {d : D} {v : V} {ps : List (Key × D)} {qs : List (Key × V)} (r : RV K ι H d v) (h : RKV K ι H ps qs) : RKV K ι H (putD ps k d) (putK qs k v) := by
  unfold putD putK
  rw [h.any k]
  split
  · exact h.map r
  · exact h.app ⟨rfl, r, trivial⟩
end
def dicD (x : D) (m : M) : Option (Nat × List (Key × D)) := match x with
  | .ref n => match m[n]? with
    | some (.dic kvs) => some (n, kvs)
    | _ => none
  | _ => none
theorem dic_of {K : PySem.W.Frag} {ι : List Addr} {H : Hp} {m : M} {x : D} {v : V} {n : Nat} {kvs : List (Key × D)} (rm : RM K ι m H) (rx : RV K ι H x v) (e : dicD x m = some (n, kvs)) : ∃ a ws, ι[n]? = some a ∧ v = .ref a ∧ H a = some (.dK ws) ∧ RKV K ι H kvs ws := by
  unfold dicD at e
  split at e
  · split at e
    · rename_i e0
      cases e
      cases rx with
      | ref h =>
        obtain ⟨vs, a1, b1⟩ := rm.ob _ _ _ e0 h
        exact ⟨_, _, h, rfl, a1, b1⟩
    · cases e
  · cases e
def getD2 : F2 := fun x y m => (dicD x m).bind fun p => (keyD y).bind fun k => (valD p.2 k).bind fun d => some (d, m)
theorem le_dget {a b : Expr} {ca cb : CE} {pos : Pos} (hu : X.A.units + 1 < cLine) (ha : LE X a ca) (hb : LE X b cb) (hs : NoSl b := by exact fun _ _ => rfl) : LE X (.Subscript a b pos) (c2 getD2 ca cb) := by
  obtain ⟨ta, pa, ha⟩ := ha.ex
  obtain ⟨tb, pb, hb⟩ := hb.ex
  refine ⟨_, pe_dget hu pa pb hs, fun ρ m d m' ι σ H Q e rm s k => ?_⟩
  refine two (r := fun x y H Q => ∃ a v, x = .ref a ∧ DGet H a y (some v) ∧ Q v H) ha hb (fun x y m d m' ι H v w Q e rm rx ry k => ?_) e rm s k
  unfold getD2 at e
  obtain ⟨⟨n, kvs⟩, e1, e⟩ := Option.bind_eq_some_iff.mp e
  obtain ⟨ky, e2, e⟩ := Option.bind_eq_some_iff.mp e
  obtain ⟨d, e3, e⟩ := Option.bind_eq_some_iff.mp e
  cases e
  obtain ⟨a, ws, h1, rfl, h2, h3⟩ := dic_of rm rx e1
  obtain ⟨v, h4, h5⟩ := h3.val e3
  rw [key_of ry e2]
  refine ⟨a, v, rfl, ?_, k ι H _ .refl rm h5⟩
  rw [← h4]
  exact DGet.k h2
/-- a written dict whose keys are written texts -/
def RPs (K : PySem.W.Frag) (ι : List Addr) (H : Hp) : List (Key × D) → List (V × V) → Prop
  | [], [] => True
  | p :: ps, q :: qs => q.1 = kV p.1 ∧ RV K ι H p.2 q.2 ∧ RPs K ι H ps qs
  | _, _ => False
structure LP (X : Cx) (pos : Pos) (ks : List (Option Expr)) (vs : List Expr) (c : En → M → Option (List (Key × D) × M)) : Prop where
  ex : ∃ trs, PPs X pos ks vs trs ∧ ∀ (ρ : En) (m : M) (ps : List (Key × D)) (m' : M) (ι : List Addr) (σ : L2.St) (H : Hp) (Q : List (V × V) → Hp → Prop), c ρ m = some (ps, m') → RM X.K ι m H → RS X.K ι H σ ρ →
    (∀ (ι' : List Addr) (H' : Hp) (qs : List (V × V)), Gr ι ι' H H' → RM X.K ι' m' H' → RPs X.K ι' H' ps qs → Q qs H') → tPairs trs σ H Q
def cPNil : En → M → Option (List (Key × D) × M) := fun _ m => some ([], m)
def cPCons (ck cv : CE) (cs : En → M → Option (List (Key × D) × M)) : En → M → Option (List (Key × D) × M) := fun ρ m => (ck ρ m).bind fun k => (cv ρ k.2).bind fun v => (cs ρ v.2).bind fun r => (keyD k.1).bind fun ky => some ((ky, v.1) :: r.1, r.2)
theorem lp_nil {pos : Pos} : LP X pos [] [] cPNil := ⟨_, pps_nil, fun ρ m ps m' ι σ H Q e r s k => by cases e; exact k ι H [] .refl r trivial⟩
theorem lp_cons {pos : Pos} {k v : Expr} {ks : List (Option Expr)} {vs : List Expr} {ck cv : CE} {cs : En → M → Option (List (Key × D) × M)} (hk : LE X k ck) (hv : LE X v cv) (hs : LP X pos ks vs cs) : LP X pos (some k :: ks) (v :: vs) (cPCons ck cv cs) := by
  obtain ⟨tk, pk, hk⟩ := hk.ex
  obtain ⟨tv, pv, hv⟩ := hv.ex
  obtain ⟨ts, ps, hs⟩ := hs.ex
  refine ⟨_, pps_cons pk pv ps, fun ρ m ps m' ι σ H Q e r s k => ?_⟩
  unfold cPCons at e
  obtain ⟨⟨x, m1⟩, e1, e⟩ := Option.bind_eq_some_iff.mp e
  obtain ⟨⟨y, m2⟩, e2, e⟩ := Option.bind_eq_some_iff.mp e
  obtain ⟨⟨z, m3⟩, e3, e⟩ := Option.bind_eq_some_iff.mp e
  obtain ⟨ky, e4, e⟩ := Option.bind_eq_some_iff.mp e
  cases e
  refine hk ρ m x m1 ι σ H _ e1 r s fun ι1 H1 v g1 r1 h1 => ?_
  refine hv ρ m1 y m2 ι1 σ H1 _ e2 r1 (s.gr r g1) fun ι2 H2 w g2 r2 h2 => ?_
  refine hs ρ m2 z m3 ι2 σ H2 _ e3 r2 ((s.gr r g1).gr r1 g2) fun ι3 H3 qs g3 r3 h3 => ?_
  exact k ι3 H3 _ ((g1.trans g2).trans g3) r3 ⟨key_of h1 e4, h2.gr r2 g3, h3⟩
def cDict (c : En → M → Option (List (Key × D) × M)) : CE := fun ρ m => (c ρ m).bind fun p => some (.ref p.2.length, p.2 ++ [.dic (p.1.foldl (fun acc kv => putD acc kv.1 kv.2) [])])
theorem rps_split {K : PySem.W.Frag} {ι : List Addr} {H : Hp} : ∀ {ps : List (Key × D)} {qs : List (V × V)}, RPs K ι H ps qs → ∃ kvs : List (Key × V), qs = kvs.map (fun kv => (kV kv.1, kv.2)) ∧ RKV K ι H ps kvs
  | [], [], _ => ⟨[], rfl, trivial⟩
  | [], _ :: _, h => h.elim
  | _ :: _, [], h => h.elim
  | p :: ps, (q1, q2) :: qs, ⟨h1, h2, h3⟩ => by
    obtain ⟨kvs, e, h⟩ := rps_split h3
    simp only at h1
    exact ⟨(p.1, q2) :: kvs, by rw [List.map_cons, ← e, h1], rfl, h2, h⟩
theorem rkv_merge {K : PySem.W.Frag} {ι : List Addr} {H : Hp} : ∀ {ps : List (Key × D)} {qs : List (Key × V)} {acc : List (Key × D)} {acc' : List (Key × V)}, RKV K ι H ps qs → RKV K ι H acc acc' → RKV K ι H (ps.foldl (fun acc kv => putD acc kv.1 kv.2) acc) (mergeK acc' qs)
  | [], [], _, _, _, g => g
  | [], _ :: _, _, _, h, _ => h.elim
  | _ :: _, [], _, _, h, _ => h.elim
  | p :: ps, q :: qs, acc, acc', ⟨h1, h2, h3⟩, g => by
    have g' := g.put (k := p.1) h2
    unfold mergeK
    rw [List.foldl_cons, List.foldl_cons, ← h1]
    exact rkv_merge h3 g'
theorem le_dict {ks : List (Option Expr)} {vs : List Expr} {c : En → M → Option (List (Key × D) × M)} {pos : Pos} (h : LP X pos ks vs c) (hlen : ∀ ρ m ps m', c ρ m = some (ps, m') → ps.length ≤ 15) (hall : ks.all (·.isSome) = true := by rfl) (hl : ks.length = vs.length := by rfl) (h0 : ks ≠ [] := by exact fun z => nomatch z) (h15 : ks.length ≤ 15 := by decide) :
    LE X (.Dict ks vs pos) (cDict c) := by
  obtain ⟨ts, ps, hs⟩ := h.ex
  refine ⟨_, pe_disp ps hall hl h0 h15, fun ρ m d m' ι σ H Q e r s k => ?_⟩
  unfold cDict at e
  obtain ⟨⟨ps, m1⟩, e1, e⟩ := Option.bind_eq_some_iff.mp e
  cases e
  intro p hp
  have g0 := gr_new (ι := ι) r hp (.dK [])
  have r0 := rm_new (ι := ι) r hp (.dK [])
  refine hs ρ m ps m1 ι σ _ _ e1 r0 (s.gr r g0) fun ι1 H1 qs g1 r1 h1 => ?_
  have hp1 : p ∉ ι := r.none_notin hp
  have hH1 : H1 p = some (.dK []) := g1.keep _ _ upd_same hp1
  have hp2 : p ∉ ι1 := fun z => by
    have := g1.new p z hp1
    rw [upd_same] at this; cases this
  obtain ⟨kvs, rfl, h2⟩ := rps_split h1
  refine ⟨hH1, kvs, rfl, by rw [← h2.length]; exact hlen _ _ _ _ e1, ?_⟩
  have gB : Gr ι (ι1 ++ [p]) H (upd H1 p (.dK (mergeK [] kvs))) := by
    refine ⟨g1.pre.trans (List.prefix_append _ _), fun a ha hn => ?_, fun a o ha hn => ?_, fun a o' u' ha => by
      have hap : a ≠ p := ne_of_none ha hp
      rw [upd_ne hap]
      exact g1.lock a o' u' (by rw [upd_ne hap]; exact ha)⟩
    · rcases List.mem_append.mp ha with ha | ha
      · have := g1.new a ha hn
        by_cases hap : a = p
        · rw [hap]; exact hp
        · rw [upd_ne hap] at this; exact this
      · rw [List.mem_singleton.mp ha]; exact hp
    · have hap : a ≠ p := ne_of_none ha hp
      rw [upd_ne hap]
      exact g1.keep a o (by rw [upd_ne hap]; exact ha) hn
  have ob : Ob H1 p := .inr ⟨_, hH1⟩
  refine k (ι1 ++ [p]) _ _ gB (rm_adopt r1 hp2 ob ⟨_, upd_same, ?_⟩) (.ref (at_push r1))
  exact (rkv_merge h2 (show RKV X.K ι1 H1 [] [] from trivial)).mv (mv_upd ob (List.prefix_append _ _) _)
theorem cPNil_len : ∀ ρ m ps m', cPNil ρ m = some (ps, m') → ps.length = 0 := fun ρ m ps m' e => by cases e; rfl
theorem cPCons_len {ck cv : CE} {cs : En → M → Option (List (Key × D) × M)} {n : Nat} (h : ∀ ρ m ps m', cs ρ m = some (ps, m') → ps.length = n) : ∀ ρ m ps m', cPCons ck cv cs ρ m = some (ps, m') → ps.length = n + 1 := fun ρ m ps m' e => by
  unfold cPCons at e
  obtain ⟨⟨x, m1⟩, e1, e⟩ := Option.bind_eq_some_iff.mp e
  obtain ⟨⟨y, m2⟩, e2, e⟩ := Option.bind_eq_some_iff.mp e
  obtain ⟨⟨z, m3⟩, e3, e⟩ := Option.bind_eq_some_iff.mp e
  obtain ⟨ky, e4, e⟩ := Option.bind_eq_some_iff.mp e
  cases e
  rw [List.length_cons, h _ _ _ _ e3]
end
end L3

set_option Elab.async false
set_option linter.all false
set_option maxRecDepth 100000
namespace L3
open PySem PySem.Spec PyProof.Rows L2
/-! ### what a statement comes to -/
inductive Fl where
  | nx (ρ : En) | rt (d : D) | bk (ρ : En) | ct (ρ : En)
abbrev CS := En → M → Option (Fl × M)
def GoodF (K : PySem.W.Frag) (ι : List Addr) (H : Hp) (f : Fl) (D : Ends) : Prop := match f with
  | .nx ρ => ∀ σ, RS K ι H σ ρ → D.nx σ H
  | .rt d => ∀ v, RV K ι H d v → D.rt v H
  | .bk ρ => ∀ σ, RS K ι H σ ρ → D.bk σ H
  | .ct ρ => ∀ σ, RS K ι H σ ρ → D.ct σ H
abbrev Ks (K : PySem.W.Frag) (ι : List Addr) (H : Hp) (f : Fl) (m' : M) (D : Ends) : Prop := ∀ (ι' : List Addr) (H' : Hp), Gr ι ι' H H' → RM K ι' m' H' → GoodF K ι' H' f D
structure LS (X : Cx) (st : Stmt) (c : CS) : Prop where
  ex : ∃ t, PS X st t ∧ ∀ (ρ : En) (m : M) (f : Fl) (m' : M) (ι : List Addr) (σ : L2.St) (H : Hp) (D : Ends), c ρ m = some (f, m') → RM X.K ι m H → RS X.K ι H σ ρ → Ks X.K ι H f m' D → t D σ H
structure LSs (X : Cx) (st : List Stmt) (c : CS) : Prop where
  ex : ∃ t, PSs X st t ∧ ∀ (ρ : En) (m : M) (f : Fl) (m' : M) (ι : List Addr) (σ : L2.St) (H : Hp) (D : Ends), c ρ m = some (f, m') → RM X.K ι m H → RS X.K ι H σ ρ → Ks X.K ι H f m' D → t D σ H
section
variable {X : Cx}
def cNext : CS := fun ρ m => some (.nx ρ, m)
def cSeq (a b : CS) : CS := fun ρ m => match a ρ m with
  | some (.nx ρ1, m1) => b ρ1 m1
  | r => r
theorem ls_nil : LSs X [] cNext := ⟨_, pss_nil, fun ρ m f m' ι σ H D e r s k => by cases e; exact k ι H .refl r σ s⟩
theorem ls_one {st : Stmt} {a : CS} (h : LS X st a) : LSs X [st] a := by
  obtain ⟨t, pt, ht⟩ := h.ex
  exact ⟨_, pss_one pt, ht⟩
theorem ls_cons {st : Stmt} {rest : List Stmt} {a b : CS} (h : LS X st a) (hs : LSs X rest b) : LSs X (st :: rest) (cSeq a b) := by
  obtain ⟨t, pt, ht⟩ := h.ex
  obtain ⟨u, pu, hu⟩ := hs.ex
  refine ⟨_, pss_cons pt pu, fun ρ m f m' ι σ H D e r s k => ?_⟩
  unfold cSeq at e
  split at e
  · rename_i ρ1 m1 e1
    refine ht ρ m _ m1 ι σ H _ e1 r s fun ι1 H1 g1 r1 => ?_
    intro σ1 s1
    exact hu ρ1 m1 f m' ι1 σ1 H1 D e r1 s1 fun ι2 H2 g2 r2 => k ι2 H2 (g1.trans g2) r2
  · rename_i hno
    refine ht ρ m f m' ι σ H _ e r s fun ι1 H1 g1 r1 => ?_
    have := k ι1 H1 g1 r1
    cases f with
    | nx ρ1 => exact absurd e (hno ρ1 m')
    | rt d => exact this
    | bk ρ1 => exact this
    | ct ρ1 => exact this
def cBreak : CS := fun ρ m => some (.bk ρ, m)
def cCont : CS := fun ρ m => some (.ct ρ, m)
def cDrop (c : CE) : CS := fun ρ m => (c ρ m).bind fun p => some (.nx ρ, p.2)
def cRet (c : CE) : CS := fun ρ m => (c ρ m).bind fun p => some (.rt p.1, p.2)
theorem ls_ret {e : Expr} {c : CE} {pos : Pos} (h : LE X e c) : LS X (.Return (some e) pos) (cRet c) := by
  obtain ⟨t, pt, ht⟩ := h.ex
  refine ⟨_, ps_ret pt, fun ρ m f m' ι σ H D e r s k => ?_⟩
  unfold cRet at e
  obtain ⟨⟨x, m1⟩, e1, e⟩ := Option.bind_eq_some_iff.mp e
  cases e
  exact ht ρ m x m1 ι σ H _ e1 r s fun ι1 H1 v g1 r1 h1 => k ι1 H1 g1 r1 v h1
def cIfS (c : CT) (a b : CS) : CS := fun ρ m => (c ρ m).bind fun p => if p.1 = true then a ρ p.2 else b ρ p.2
theorem ls_if {c : Expr} {a b : List Stmt} {cc : CT} {ca cb : CS} {pos : Pos} (hc : LT X c cc) (ha : LSs X a ca) (hb : LSs X b cb) : LS X (.If c a b pos) (cIfS cc ca cb) := by
  obtain ⟨t, pt, ht⟩ := hc.ex
  obtain ⟨u, pu, hu⟩ := ha.ex
  obtain ⟨w, pw, hw⟩ := hb.ex
  refine ⟨_, ps_if pt pu pw, fun ρ m f m' ι σ H D e r s k => ?_⟩
  unfold cIfS at e
  obtain ⟨⟨x, m1⟩, e1, e⟩ := Option.bind_eq_some_iff.mp e
  refine ht ρ m x m1 ι σ H _ e1 r s fun ι1 H1 g1 r1 => ?_
  cases x with
  | true => exact hu ρ m1 f m' ι1 σ H1 D e r1 (s.gr r g1) fun ι2 H2 g2 r2 => k ι2 H2 (g1.trans g2) r2
  | false => exact hw ρ m1 f m' ι1 σ H1 D e r1 (s.gr r g1) fun ι2 H2 g2 r2 => k ι2 H2 (g1.trans g2) r2
/-! ### targets -/
/-- a target that stores names (at the places js) -/
structure LG (X : Cx) (tg : Expr) (js : List Nat) (g : D → En → Option En) : Prop where
  ex : ∃ t, PG X tg t ∧ ∀ (d : D) (ρ ρ' : En) (v : V) (ι : List Addr) (σ : L2.St) (H : Hp) (Q : L2.St → Hp → Prop), g d ρ = some ρ' → RV X.K ι H d v → RS X.K ι H σ ρ →
    (∀ σ', RS X.K ι H σ' ρ' → (∀ j, j ∉ js → σ'[j]? = σ[j]?) → Q σ' H) → t v σ H Q
theorem RS.set {K : PySem.W.Frag} {ι : List Addr} {H : Hp} {σ : L2.St} {ρ : En} {d : D} {v : V} (s : RS K ι H σ ρ) (i : Nat) (h : RV K ι H d v) : RS K ι H (σ.set i (some v)) (ρ.set i (some d)) := by
  refine ⟨by rw [List.length_set, List.length_set]; exact s.1, fun j x e => ?_⟩
  by_cases hj : i = j
  · subst hj
    by_cases hl : i < ρ.length
    · rw [List.getElem?_set_self hl] at e
      cases e
      exact ⟨v, by rw [List.getElem?_set_self (by rw [s.1]; exact hl)], h⟩
    · rw [List.getElem?_eq_none (by rw [List.length_set]; omega)] at e
      cases e
  · rw [List.getElem?_set_ne hj] at e ⊢
    exact s.2 j x e
def gSet (i : Nat) : D → En → Option En := fun d ρ => some (ρ.set i (some d))
theorem lg_name {i : Nat} {x : Str} {pos : Pos} (hN : X.N.Nodup) (hx : X.N[i]? = some x := by rfl) (hl : L2.Loc X.env.scope x := by first | exact Or.inl rfl | exact Or.inr rfl) (hf : X.fn x = true ∨ X.env.scope.names.lookup x = some .local := by first | exact .inl rfl | exact .inr rfl | assumption) : LG X (.Name x pos) [i] (gSet i) :=
  ⟨_, pg_name (i := i) hN hx hl hf, fun d ρ ρ' v ι σ H Q e h s k => by
    cases e
    exact k _ (s.set i h) fun j hj => List.getElem?_set_ne (fun z => hj (by rw [z]; exact List.mem_singleton_self _))⟩
/-- several targets in a row -/
structure LGs (X : Cx) (ts : List Expr) (js : List Nat) (g : List D → En → Option En) : Prop where
  ex : ∃ t, PGs X ts t ∧ ∀ (ds : List D) (ρ ρ' : En) (vs : List V) (ι : List Addr) (σ : L2.St) (H : Hp) (Q : L2.St → Hp → Prop), g ds ρ = some ρ' → RVs X.K ι H ds vs → RS X.K ι H σ ρ →
    (∀ σ', RS X.K ι H σ' ρ' → (∀ j, j ∉ js → σ'[j]? = σ[j]?) → Q σ' H) → t vs σ H Q
def gsNil : List D → En → Option En := fun ds ρ => match ds with
  | [] => some ρ
  | _ => none
def gsCons (a : D → En → Option En) (b : List D → En → Option En) : List D → En → Option En := fun ds ρ => match ds with
  | [] => none
  | d :: ds => (a d ρ).bind fun ρ1 => b ds ρ1
theorem lgs_nil : LGs X [] [] gsNil := ⟨_, pgs_nil, fun ds ρ ρ' vs ι σ H Q e h s k => by
  unfold gsNil at e
  split at e
  · cases e; cases h; exact ⟨rfl, k σ s fun _ _ => rfl⟩
  · cases e⟩
theorem lgs_cons {e : Expr} {es : List Expr} {js ks : List Nat} {a : D → En → Option En} {b : List D → En → Option En} (h : LG X e js a) (hs : LGs X es ks b) (hst : (assignEach (e :: es) X.env).map (·.2) = assign e X.env :: (assignEach es X.env).map (·.2) := by rfl) : LGs X (e :: es) (js ++ ks) (gsCons a b) := by
  obtain ⟨t, pt, ht⟩ := h.ex
  obtain ⟨u, pu, hu⟩ := hs.ex
  refine ⟨_, pgs_cons pt pu hst, fun ds ρ ρ' vs ι σ H Q e r s k => ?_⟩
  unfold gsCons at e
  split at e
  · cases e
  · obtain ⟨ρ1, e1, e⟩ := Option.bind_eq_some_iff.mp e
    cases r with
    | cons r1 r2 =>
      refine ⟨_, _, rfl, ht _ ρ ρ1 _ ι σ H _ e1 r1 s fun σ1 s1 k1 => ?_⟩
      exact hu _ ρ1 ρ' _ ι σ1 H _ e r2 s1 fun σ2 s2 k2 => k σ2 s2 fun j hj => by
        rw [List.mem_append] at hj
        rw [k2 j (fun z => hj (.inr z)), k1 j (fun z => hj (.inl z))]
def gTupD (n : Nat) (g : List D → En → Option En) : D → En → Option En := fun d ρ => match d with
  | .tup ds => if ds.length = n then g ds ρ else none
  | _ => none
theorem lg_tup {es : List Expr} {kk} {pos : Pos} {js : List Nat} {g : List D → En → Option En} {n : Nat} (hc : X.calm = true) (h : LGs X es js g) (hn : (assignEach es X.env).length = n := by rfl) (hst : (assignEach es X.env).findIdx? (·.1) = none := by rfl) : LG X (.Tuple es kk pos) js (gTupD n g) := by
  obtain ⟨t, pt, ht⟩ := h.ex
  refine ⟨_, pg_tup hc pt hn hst, fun d ρ ρ' v ι σ H Q e r s k => ?_⟩
  unfold gTupD at e
  split at e
  · split at e
    · rename_i hl
      cases r with
      | tup h1 h2 => exact ⟨_, _, rfl, h1, by rw [← h2.length]; exact hl, ht _ ρ ρ' _ ι σ H _ e h2 s k⟩
    · cases e
  · cases e
def cAsg (c : CE) (g : D → En → Option En) : CS := fun ρ m => (c ρ m).bind fun p => (g p.1 ρ).bind fun ρ' => some (.nx ρ', p.2)
theorem ls_asg {tg e : Expr} {js : List Nat} {c : CE} {g : D → En → Option En} {pos : Pos} (h : LE X e c) (hg : LG X tg js g) (hsw : swapsWithSole [tg] e pos.line X.env = pure false := by rfl) (hw : swappedStores [tg] e X.env = pure none := by rfl) (h1 : (assignEach [tg] X.env).map (·.2) = [assign tg X.env] := by rfl) : LS X (.Assign [tg] e pos) (cAsg c g) := by
  obtain ⟨t, pt, ht⟩ := h.ex
  obtain ⟨u, pu, hu⟩ := hg.ex
  refine ⟨_, ps_asg pt pu hsw hw h1, fun ρ m f m' ι σ H D e r s k => ?_⟩
  unfold cAsg at e
  obtain ⟨⟨x, m1⟩, e1, e⟩ := Option.bind_eq_some_iff.mp e
  obtain ⟨ρ', e2, e⟩ := Option.bind_eq_some_iff.mp e
  cases e
  refine ht ρ m x m1 ι σ H _ e1 r s fun ι1 H1 v g1 r1 h1 => ?_
  exact hu x ρ ρ' v ι1 σ H1 _ e2 h1 (s.gr r g1) fun σ' s' _ => k ι1 H1 g1 r1 σ' s'
/-- d[k] = v -/
def cPut (d k v : CE) : CS := fun ρ m => (v ρ m).bind fun x => (d ρ x.2).bind fun y => (k ρ y.2).bind fun z => (dicD y.1 z.2).bind fun p => (keyD z.1).bind fun ky =>
  if p.2.length < sizeLine then some (.nx ρ, z.2.set p.1 (.dic (putD p.2 ky x.1))) else none
theorem ls_dput {o i e : Expr} {co ci ce : CE} {pos pos' : Pos} (hu : X.A.units + 1 < cLine) (ho : LE X o co) (hi : LE X i ci) (he : LE X e ce) (hs : swapsWith e (some (.Subscript o i pos')) pos.line X.env = pure false := by rfl) :
    LS X (.Assign [.Subscript o i pos'] e pos) (cPut co ci ce) := by
  obtain ⟨to, po, ho⟩ := ho.ex
  obtain ⟨ti, pi, hi⟩ := hi.ex
  obtain ⟨te, pe, he⟩ := he.ex
  refine ⟨_, ps_dput hu po pi pe hs, fun ρ m f m' ι σ H D e r s k => ?_⟩
  unfold cPut at e
  obtain ⟨⟨x, m1⟩, e1, e⟩ := Option.bind_eq_some_iff.mp e
  obtain ⟨⟨y, m2⟩, e2, e⟩ := Option.bind_eq_some_iff.mp e
  obtain ⟨⟨z, m3⟩, e3, e⟩ := Option.bind_eq_some_iff.mp e
  obtain ⟨⟨n, kvs⟩, e4, e⟩ := Option.bind_eq_some_iff.mp e
  obtain ⟨ky, e5, e⟩ := Option.bind_eq_some_iff.mp e
  split at e
  · rename_i hz
    cases e
    refine he ρ m x m1 ι σ H _ e1 r s fun ι1 H1 v g1 r1 h1 => ?_
    have s1 := s.gr r g1
    refine ho ρ m1 y m2 ι1 σ H1 _ e2 r1 s1 fun ι2 H2 w g2 r2 h2 => ?_
    have s2 := s1.gr r1 g2
    refine hi ρ m2 z m3 ι2 σ H2 _ e3 r2 s2 fun ι3 H3 u g3 r3 h3 => ?_
    have s3 := s2.gr r2 g3
    obtain ⟨a, ws, q1, q2, q3, q4⟩ := dic_of r3 (h2.gr r2 g3) e4
    subst q2
    rw [key_of h3 e5]
    have gs := gr_set (H := H3) (List.mem_of_getElem? q1) (.dK q3) (.dK (putK ws ky v))
    refine ⟨a, _, rfl, DPut.k q3 (by rw [← q4.length]; exact hz), ?_⟩
    have h1' := (h1.gr r1 g2).gr r2 g3
    refine k ι3 _ (((g1.trans g2).trans g3).trans gs) (rm_set r3 q1 (.dK q3) ⟨_, upd_same, ?_⟩) σ (s3.gr r3 gs)
    exact (q4.put h1').gr r3 gs
  · cases e
/-! ### methods of lists -/
def isLst (x : D) (m : M) : Bool := (lstD x m).isSome
abbrev F3 := D → List D → M → Option (D × M)
structure LMt (X : Cx) (id : String) (f : F3) : Prop where
  ex : ∃ r, MtR X id r ∧ ∀ (x : D) (ds : List D) (m : M) (d : D) (m' : M) (ι : List Addr) (H : Hp) (v : V) (vs : List V) (Q : VK), f x ds m = some (d, m') → RM X.K ι m H → RV X.K ι H x v → RVs X.K ι H ds vs → Ko X.K ι H d m' Q → r v vs H Q
def cMt (f : F3) (o : CE) (cs : CA) : CE := fun ρ m => (o ρ m).bind fun p => if isLst p.1 p.2 = true then (cs ρ p.2).bind fun q => f p.1 q.1 q.2 else none
def lstN (x : D) (m : M) : Option (Nat × List D) := match x with
  | .ref n => match m[n]? with
    | some (.lst ds) => some (n, ds)
    | _ => none
  | _ => none
def appendD : F3 := fun x ds m => match ds with
  | [y] => (lstN x m).bind fun p => if p.2.length < sizeLine then some (.non, m.set p.1 (.lst (p.2 ++ [y]))) else none
  | _ => none
def extendD : F3 := fun x ds m => match ds with
  | [y] => (lstN x m).bind fun p => (lstN y m).bind fun q => if p.2.length + q.2.length ≤ sizeLine then some (.non, m.set p.1 (.lst (p.2 ++ q.2))) else none
  | _ => none
def popD : F3 := fun x ds m => match ds with
  | [] => (lstN x m).bind fun p => (p.2[p.2.length - 1]?).bind fun y => some (y, m.set p.1 (.lst p.2.dropLast))
  | _ => none
/-! ### sep.join(list of texts) -/
def strsD : List D → Option (List Str)
  | [] => some []
  | .str b :: ds => (strsD ds).map (b :: ·)
  | _ :: _ => none
def cJoin (o c : CE) : CE := fun ρ m => (o ρ m).bind fun p => match p.1 with
  | .str a => (c ρ p.2).bind fun q => (itemsD q.1 q.2).bind fun ds => (strsD ds).bind fun ys => if (ys.map (·.length)).sum + ys.length * a.length ≤ 16777216 then some (.str (Txt.join a ys), q.2) else none
  | _ => none
end
end L3

set_option Elab.async false
set_option linter.all false
set_option maxRecDepth 100000
namespace L3
open PySem PySem.Spec PyProof.Rows L2
/-- the walked list stands as it stood -/
def Wt (w : Option Nat) (m0 m : M) : Prop := ∀ n, w = some n → m[n]? = m0[n]?
theorem Wt.none {m0 m : M} : Wt none m0 m := fun _ e => nomatch e
/-- what is walked yields just these -/
structure Wk (K : PySem.W.Frag) (ι0 : List Addr) (m0 : M) (H0 : Hp) (J : It) (ds : List D) (w : Option Nat) : Prop where
  go : ∀ (i : Nat) (d : D) (ι : List Addr) (m : M) (H : Hp), ds[i]? = some d → Gr ι0 ι H0 H → RM K ι m H → Wt w m0 m → J.go i H ∧ ∀ x H', J.yld i H x H' → RM K ι m H' ∧ Gr ι ι H H' ∧ RV K ι H' d x
  stop : ∀ (ι : List Addr) (m : M) (H : Hp), Gr ι0 ι H0 H → RM K ι m H → Wt w m0 m → J.stop ds.length H
abbrev CI := En → M → Option (List D × Option Nat × M)
structure LI (X : Cx) (tg iter : Expr) (c : CI) : Prop where
  ex : ∃ wi, PI X tg iter wi ∧ ∀ (ρ : En) (m : M) (ds : List D) (w : Option Nat) (m' : M) (ι : List Addr) (σ : L2.St) (H : Hp) (R : It → Hp → Prop), c ρ m = some (ds, w, m') → RM X.K ι m H → RS X.K ι H σ ρ →
    (∀ (ι' : List Addr) (H' : Hp) (J : It), Gr ι ι' H H' → RM X.K ι' m' H' → Wk X.K ι' m' H' J ds w → R J H') → wi σ H R
section
variable {X : Cx}
/-- a tuple -/
def iTupD (c : CE) : CI := fun ρ m => match c ρ m with
  | some (.tup ds, m') => some (ds, none, m')
  | _ => none
theorem li_tup {tg e : Expr} {c : CE} (h : LE X e c) : LI X tg e (iTupD c) := by
  obtain ⟨t, pt, ht⟩ := h.ex
  refine ⟨_, pi_tup pt, fun ρ m ds w m' ι σ H R e r s k => ?_⟩
  unfold iTupD at e
  split at e
  · rename_i es m1 e1
    cases e
    refine ht ρ m _ m' ι σ H _ e1 r s fun ι1 H1 v g1 r1 h1 => ?_
    cases h1 with
    | @tup a vs _ hq hv =>
      refine ⟨a, rfl, ⟨vs, hq⟩, k ι1 H1 _ g1 r1 ⟨fun i d ι m H hd g r _ => ?_, fun ι m H g r _ => ?_⟩⟩
      · obtain ⟨u, h2, h3⟩ := (hv.gr r1 g).get hd
        refine ⟨⟨vs, u, SqT.gr r1 g hq, h2⟩, fun x H' ⟨e, y⟩ => ?_⟩
        subst e
        have := y vs (SqT.gr r1 g hq)
        rw [h2] at this; cases this
        exact ⟨r, .refl, h3⟩
      · exact ⟨vs, SqT.gr r1 g hq, by rw [hv.length]; exact Nat.le_refl _⟩
  · cases e
/-- a list of the store, or one that nobody changes -/
def iLstD (c : CE) : CI := fun ρ m => match c ρ m with
  | some (.ref n, m') => match m'[n]? with
    | some (.lst ds) => some (ds, some n, m')
    | _ => none
  | some (.fls ds, m') => some (ds, none, m')
  | _ => none
theorem li_lst {tg e : Expr} {c : CE} (h : LE X e c) : LI X tg e (iLstD c) := by
  obtain ⟨t, pt, ht⟩ := h.ex
  refine ⟨_, pi_list pt, fun ρ m ds w m' ι σ H R e r s k => ?_⟩
  unfold iLstD at e
  split at e
  · rename_i n m1 e1
    split at e
    · rename_i es e2
      cases e
      refine ht ρ m _ m' ι σ H _ e1 r s fun ι1 H1 v g1 r1 h1 => ?_
      cases h1 with
      | @ref _ a hi =>
        obtain ⟨vs, q1, q2⟩ := r1.ob _ _ _ e2 hi
        refine ⟨a, rfl, ⟨vs, .of q1⟩, k ι1 H1 _ g1 r1 ⟨fun i d ι m H hd g r hw => ?_, fun ι m H g r hw => ?_⟩⟩
        · obtain ⟨ws, p1, p2⟩ := r.ob _ _ _ ((hw n rfl).trans e2) (g.at hi)
          obtain ⟨u, h2, h3⟩ := p2.get hd
          refine ⟨⟨ws, u, .of p1, h2⟩, fun x H' ⟨e, y⟩ => ?_⟩
          subst e
          have := y ws (.of p1)
          rw [h2] at this; cases this
          exact ⟨r, .refl, h3⟩
        · obtain ⟨ws, p1, p2⟩ := r.ob _ _ _ ((hw n rfl).trans e2) (g.at hi)
          exact ⟨ws, .of p1, by rw [p2.length]; exact Nat.le_refl _⟩
    · cases e
  · rename_i es m1 e1
    cases e
    refine ht ρ m _ m' ι σ H _ e1 r s fun ι1 H1 v g1 r1 h1 => ?_
    cases h1 with
    | @fls a vs _ hq hv =>
      have keep : ∀ {ι H}, Gr ι1 ι H1 H → SqL X.K H a vs := fun g => (SqF.gr r1 g hq).sq
      refine ⟨a, rfl, ⟨vs, hq.sq⟩, k ι1 H1 _ g1 r1 ⟨fun i d ι m H hd g r _ => ?_, fun ι m H g r _ => ?_⟩⟩
      · obtain ⟨u, h2, h3⟩ := (hv.gr r1 g).get hd
        refine ⟨⟨vs, u, keep g, h2⟩, fun x H' ⟨e, y⟩ => ?_⟩
        subst e
        have := y vs (keep g)
        rw [h2] at this; cases this
        exact ⟨r, .refl, h3⟩
      · exact ⟨vs, keep g, by rw [hv.length]; exact Nat.le_refl _⟩
  · cases e
/-- range(n) -/
def iRngD (cs : CA) : CI := fun ρ m => match cs ρ m with
  | some ([.int j], m') => if -(2 ^ 62) ≤ j ∧ j < 2 ^ 62 then some ((List.range j.toNat).map fun (i : Nat) => D.int (i : Int), none, m') else none
  | _ => none
theorem li_range {tg a : Expr} {cs : CA} {p pos : Pos} (hg : Gl X "range") (hm : X.mg "range" = none) (h : LA X [a] cs) (he : starEach [a] X.env = [(false, eval a X.env)] := by rfl) : LI X tg (.Call (.Name "range" p) [a] [] pos) (iRngD cs) := by
  obtain ⟨t, pt, ht⟩ := h.ex
  refine ⟨_, pi_range1 hg hm pt (hs := he), fun ρ m ds w m' ι σ H R e r s k => ?_⟩
  unfold iRngD at e
  split at e
  · rename_i j m1 e1
    split at e
    · rename_i hj
      cases e
      refine ht ρ m _ m' ι σ H _ e1 r s fun ι1 H1 vs g1 r1 h1 => ?_
      cases h1 with
      | cons h2 h3 =>
        cases h3
        cases h2
        refine ⟨j, rfl, hj.1, hj.2, k ι1 H1 _ g1 r1 ⟨fun i d ι m H hd g r _ => ?_, fun ι m H g r _ => ?_⟩⟩
        · rw [List.getElem?_map] at hd
          obtain ⟨i', hi, hd⟩ := Option.map_eq_some_iff.mp hd
          obtain ⟨hl, hi⟩ := List.getElem?_eq_some_iff.mp hi
          rw [List.getElem_range] at hi
          subst hi hd
          rw [List.length_range] at hl
          refine ⟨hl, fun x H' ⟨e1, e2⟩ => ?_⟩
          subst e1 e2
          refine ⟨r, .refl, ?_⟩
          rw [Int.zero_add]
          exact .int _
        · show j.toNat ≤ _
          simp
    · cases e
  · cases e
/-- a text, sign by sign -/
def iStrD (c : CE) : CI := fun ρ m => match c ρ m with
  | some (.str x, m') => some (x.cps.toList.map fun c => D.str ⟨#[c]⟩, none, m')
  | _ => none
/-! ### for -/
open Classical in
noncomputable def forL (w : Option Nat) (m0 : M) (g : D → En → Option En) (body : CS) : List D → En → M → Option (Fl × M)
  | [], ρ, m => if Wt w m0 m then some (.nx ρ, m) else none
  | d :: ds, ρ, m => if Wt w m0 m then (g d ρ).bind fun ρ1 => match body ρ1 m with
      | some (.nx ρ2, m2) => forL w m0 g body ds ρ2 m2
      | some (.ct ρ2, m2) => forL w m0 g body ds ρ2 m2
      | some (.bk ρ2, m2) => some (.nx ρ2, m2)
      | some (.rt v, m2) => some (.rt v, m2)
      | none => none
    else none
noncomputable def cFor (ci : CI) (g : D → En → Option En) (body : CS) : CS := fun ρ m => (ci ρ m).bind fun p => forL p.2.1 p.2.2 g body p.1 ρ p.2.2
theorem ls_for {tg iter : Expr} {body : List Stmt} {js : List Nat} {ci : CI} {g : D → En → Option En} {cb : CS} {pos : Pos} (hp : PassesOwn (model X.prog X.w) X.A X.env X.xe) (hc : X.calm = true) (hi : LI X tg iter ci) (hg : LG X tg js g) (hb : LSs X body cb)
    (hs : ∀ x, foldedSetIterable iter X.env x = pure x := by intro _; rfl) : LS X (.For tg iter body [] pos) (cFor ci g cb) := by
  obtain ⟨wi, pi, hi⟩ := hi.ex
  obtain ⟨tg, pg, hg⟩ := hg.ex
  obtain ⟨tb, pb, hb⟩ := hb.ex
  refine ⟨_, ps_for hp hc pi pg pb hs, fun ρ m f m' ι σ H D e r s k => ?_⟩
  unfold cFor at e
  obtain ⟨⟨ds, w, m0⟩, e1, e⟩ := Option.bind_eq_some_iff.mp e
  refine hi ρ m ds w m0 ι σ H _ e1 r s fun ι0 H0 J g0 r0 wk => ?_
  refine ⟨fun i n σ H => ∃ ι1 ρ1 m1, n = ds.length - i ∧ i ≤ ds.length ∧ Gr ι0 ι1 H0 H ∧ RM X.K ι1 m1 H ∧ RS X.K ι1 H σ ρ1 ∧ forL w m0 g cb (ds.drop i) ρ1 m1 = some (f, m'), ⟨ds.length, ι0, ρ, m0, by omega, Nat.zero_le _, .refl, r0, s.gr r g0, by simpa using e⟩, ?_⟩
  rintro i n σ H ⟨ι1, ρ1, m1, rfl, hil, gg, rr, ss, ee⟩
  by_cases hlt : i < ds.length
  · rw [List.drop_eq_getElem_cons hlt] at ee
    unfold forL at ee
    split at ee
    · rename_i hw
      obtain ⟨ρ2, e2, ee⟩ := Option.bind_eq_some_iff.mp ee
      obtain ⟨go, yl⟩ := wk.go i ds[i] ι1 m1 H (List.getElem?_eq_getElem hlt) gg rr hw
      refine .inr ⟨go, fun σ' H' => ∃ ι1 ρ1 m1, Gr ι0 ι1 H0 H' ∧ RM X.K ι1 m1 H' ∧ RS X.K ι1 H' σ' ρ1 ∧ forL w m0 g cb (ds.drop (i + 1)) ρ1 m1 = some (f, m'), ?_, fun x H' hy => ?_⟩
      · rintro σ' H' ⟨ι1, ρ1, m1, a1, a2, a3, a4⟩
        exact ⟨ds.length - (i + 1), by omega, ι1, ρ1, m1, rfl, hlt, a1, a2, a3, a4⟩
      obtain ⟨r1, g1, h1⟩ := yl x H' hy
      refine hg _ ρ1 ρ2 x ι1 σ H' _ e2 h1 (ss.gr rr g1) fun σ2 s2 _ => ?_
      have gA := gg.trans g1
      split at ee
      · rename_i ρ3 m3 e3
        exact hb ρ2 m1 _ m3 ι1 σ2 H' _ e3 r1 s2 fun ι3 H3 g3 r3 σ3 s3 => ⟨ι3, ρ3, m3, gA.trans g3, r3, s3, ee⟩
      · rename_i ρ3 m3 e3
        exact hb ρ2 m1 _ m3 ι1 σ2 H' _ e3 r1 s2 fun ι3 H3 g3 r3 σ3 s3 => ⟨ι3, ρ3, m3, gA.trans g3, r3, s3, ee⟩
      · rename_i ρ3 m3 e3
        cases ee
        exact hb ρ2 m1 _ m' ι1 σ2 H' _ e3 r1 s2 fun ι3 H3 g3 r3 σ3 s3 => k ι3 H3 (g0.trans (gA.trans g3)) r3 σ3 s3
      · rename_i v m3 e3
        cases ee
        exact hb ρ2 m1 _ m' ι1 σ2 H' _ e3 r1 s2 fun ι3 H3 g3 r3 u h3 => k ι3 H3 (g0.trans (gA.trans g3)) r3 u h3
      · cases ee
    · cases ee
  · have hie : i = ds.length := by omega
    subst hie
    rw [List.drop_length] at ee
    unfold forL at ee
    split at ee
    · rename_i hw
      cases ee
      exact .inl ⟨wk.stop ι1 m' H gg rr hw, k ι1 H (g0.trans gg) rr σ ss⟩
    · cases ee
/-! ### while -/
def whL (c : CT) (b : CS) : Nat → En → M → Option (Fl × M)
  | 0, _, _ => none
  | n + 1, ρ, m => (c ρ m).bind fun p => if p.1 = true then (match b ρ p.2 with
      | some (.nx ρ2, m2) => whL c b n ρ2 m2
      | some (.ct ρ2, m2) => whL c b n ρ2 m2
      | some (.bk ρ2, m2) => some (.nx ρ2, m2)
      | some (.rt v, m2) => some (.rt v, m2)
      | none => none) else some (.nx ρ, p.2)
end
end L3

set_option Elab.async false
set_option linter.all false
set_option maxRecDepth 100000
namespace L3
open PySem PySem.Spec PyProof.Rows L2
section
variable {X : Cx}
/-! ### comprehensions -/
theorem gSet_len {i : Nat} : ∀ d ρ ρ', gSet i d ρ = some ρ' → ρ'.length = ρ.length := fun d ρ ρ' e => by cases e; exact List.length_set ..
def wipeE (ρ : En) : List Nat → En
  | [] => ρ
  | v :: vs => (wipeE ρ vs).set v none
theorem wipeE_length (ρ : En) : ∀ vs, (wipeE ρ vs).length = ρ.length
  | [] => rfl
  | v :: vs => by unfold wipeE; rw [List.length_set, wipeE_length ρ vs]
theorem wipeE_get (ρ : En) (j : Nat) (d : D) : ∀ vs, (wipeE ρ vs)[j]? = some (some d) → ρ[j]? = some (some d) ∧ j ∉ vs
  | [], h => ⟨h, by simp⟩
  | v :: vs, h => by
    unfold wipeE at h
    by_cases hv : v = j
    · subst hv
      by_cases hl : v < (wipeE ρ vs).length
      · rw [List.getElem?_set_self hl] at h; cases h
      · rw [List.getElem?_eq_none (by rw [List.length_set]; omega)] at h; cases h
    · rw [List.getElem?_set_ne hv] at h
      obtain ⟨h1, h2⟩ := wipeE_get ρ j d vs h
      exact ⟨h1, by simp [h2, Ne.symm hv]⟩
theorem RS.wipe {K : PySem.W.Frag} {ι : List Addr} {H : Hp} {σ : L2.St} {ρ : En} (s : RS K ι H σ ρ) (vs : List Nat) : RS K ι H (L2.wipe σ vs) (wipeE ρ vs) := by
  refine ⟨by rw [wipe_length, wipeE_length]; exact s.1, fun j d e => ?_⟩
  obtain ⟨h1, h2⟩ := wipeE_get ρ j d vs e
  obtain ⟨v, h3, h4⟩ := s.2 j d h1
  exact ⟨v, by rw [wipe_out h2]; exact h3, h4⟩
theorem wipe_in {σ : L2.St} {j : Nat} : ∀ {vs : List Nat}, j ∈ vs → j < σ.length → (L2.wipe σ vs)[j]? = some none
  | v :: vs, h, hl => by
    unfold L2.wipe
    by_cases hv : v = j
    · subst hv
      rw [List.getElem?_set_self (by rw [wipe_length]; exact hl)]
    · rw [List.getElem?_set_ne hv]
      exact wipe_in (by simpa [Ne.symm hv] using h) hl
theorem wipe_eq {σ σ' : L2.St} {vs : List Nat} (hl : σ'.length = σ.length) (h : ∀ j, j ∉ vs → σ'[j]? = σ[j]?) : L2.wipe σ' vs = L2.wipe σ vs := by
  refine List.ext_getElem? fun j => ?_
  by_cases hj : j ∈ vs
  · by_cases hlt : j < σ.length
    · rw [wipe_in hj (by omega), wipe_in hj hlt]
    · rw [List.getElem?_eq_none (by rw [wipe_length]; omega), List.getElem?_eq_none (by rw [wipe_length]; omega)]
  · rw [wipe_out hj, wipe_out hj, h j hj]
open Classical in
noncomputable def lcL (w : Option Nat) (m0 : M) (g : D → En → Option En) (tt : CT) (ce : CE) (ρ : En) : List D → M → Option (List D × M)
  | [], m => if Wt w m0 m then some ([], m) else none
  | d :: ds, m => if Wt w m0 m then (g d ρ).bind fun ρ1 => (tt ρ1 m).bind fun p => if p.1 = true then (ce ρ1 p.2).bind fun q => (lcL w m0 g tt ce ρ ds q.2).bind fun r => some (q.1 :: r.1, r.2) else lcL w m0 g tt ce ρ ds p.2 else none
noncomputable def cLc (ci : CI) (g : D → En → Option En) (tt : CT) (ce : CE) (vs : List Nat) : CE := fun ρ m => (ci ρ m).bind fun p => if p.1.length ≤ sizeLine then (lcL p.2.1 p.2.2 g tt ce (wipeE ρ vs) p.1 p.2.2).bind fun q => some (.ref q.2.length, q.2 ++ [.lst q.1]) else none
/-- a clause's tests -/
structure LTs (X : Cx) (ifs : List Expr) (c : CT) : Prop where
  ex : ∃ t, PTs X ifs t ∧ ∀ (ρ : En) (m : M) (b : Bool) (m' : M) (ι : List Addr) (σ : L2.St) (H : Hp) (Q : Bool → Hp → Prop), c ρ m = some (b, m') → RM X.K ι m H → RS X.K ι H σ ρ → Kt X.K ι H m' (Q b) → t σ H Q
def cYes : CT := fun _ m => some (true, m)
theorem lts_nil : LTs X [] cYes := ⟨_, pts_nil, fun ρ m b m' ι σ H Q e r s k => by cases e; exact k ι H .refl r⟩
theorem lts_one {c : Expr} {t : CT} (h : LT X c t) : LTs X [c] t := by
  obtain ⟨t, pt, ht⟩ := h.ex
  exact ⟨_, pts_one pt, ht⟩
theorem gr_side {ι ι' : List Addr} {H H' : Hp} {p : Addr} (g : Gr ι ι' H H') (hp : H p = none) (hn : p ∉ ι') (o : HO) : Gr ι ι' H (upd H' p o) :=
  ⟨g.pre, g.new, fun a u h n => by rw [upd_ne (ne_of_none h hp)]; exact g.keep a u h n, fun a o' u h => by rw [upd_ne (ne_of_none h hp)]; exact g.lock a o' u h⟩
theorem upd_self {H : Hp} {p : Addr} {o : HO} (h : H p = some o) : upd H p o = H := by
  funext b
  unfold upd
  split
  · rename_i e; rw [e, h]
  · rfl
theorem RS.len {K : PySem.W.Frag} {ι : List Addr} {H : Hp} {σ : L2.St} {ρ : En} (s : RS K ι H σ ρ) : σ.length = ρ.length := s.1
/-- what a comprehension comes to; the three parts are read in the block's own context -/
theorem lc_read {K : PySem.W.Frag} {g : D → En → Option En} {ct : CT} {ce : CE} {js : List Nat} {tg : TG} {tt : TT} {te : TE} {ci : CI} {wi : TI} {vs : List Nat} (hjs : ∀ j ∈ js, j ∈ vs)
    (hi : ∀ (ρ : En) (m : M) (ds : List D) (w : Option Nat) (m' : M) (ι : List Addr) (σ : L2.St) (H : Hp) (R : It → Hp → Prop), ci ρ m = some (ds, w, m') → RM K ι m H → RS K ι H σ ρ →
      (∀ (ι' : List Addr) (H' : Hp) (J : It), Gr ι ι' H H' → RM K ι' m' H' → Wk K ι' m' H' J ds w → R J H') → wi σ H R)
    (hg : ∀ (d : D) (ρ ρ' : En) (v : V) (ι : List Addr) (σ : L2.St) (H : Hp) (Q : L2.St → Hp → Prop), g d ρ = some ρ' → RV K ι H d v → RS K ι H σ ρ → (∀ σ', RS K ι H σ' ρ' → (∀ j, j ∉ js → σ'[j]? = σ[j]?) → Q σ' H) → tg v σ H Q)
    (ht : ∀ (ρ : En) (m : M) (b : Bool) (m' : M) (ι : List Addr) (σ : L2.St) (H : Hp) (Q : Bool → Hp → Prop), ct ρ m = some (b, m') → RM K ι m H → RS K ι H σ ρ → Kt K ι H m' (Q b) → tt σ H Q)
    (he : ∀ (ρ : En) (m : M) (d : D) (m' : M) (ι : List Addr) (σ : L2.St) (H : Hp) (Q : VK), ce ρ m = some (d, m') → RM K ι m H → RS K ι H σ ρ → Ko K ι H d m' Q → te σ H Q)
    (hgl : ∀ d ρ ρ', g d ρ = some ρ' → ρ'.length = ρ.length)
    {ρ : En} {m : M} {d : D} {m' : M} {ι : List Addr} {σ : L2.St} {H : Hp} {Q : VK} (e : cLc ci g ct ce vs ρ m = some (d, m')) (r : RM K ι m H) (s : RS K ι H σ ρ) (k : Ko K ι H d m' Q) : tLc wi tg tt te vs σ H Q := by
  unfold cLc at e
  obtain ⟨⟨ds, w, m0⟩, e1, e⟩ := Option.bind_eq_some_iff.mp e
  split at e
  · rename_i hz
    obtain ⟨⟨out, m2⟩, e2, e⟩ := Option.bind_eq_some_iff.mp e
    cases e
    refine hi ρ m ds w m0 ι σ H _ e1 r s fun ι0 H0 J g0 r0 wk => ?_
    intro p hp
    have s0 := (s.gr r g0).wipe vs
    refine ⟨fun i n H => ∃ ι1 m1 accD acc rest, n = ds.length - i ∧ i ≤ ds.length ∧ Gr ι0 ι1 H0 H ∧ RM K ι1 m1 H ∧ p ∉ ι1 ∧ H p = some (.lst acc) ∧ RVs K ι1 H accD acc ∧ accD.length ≤ i ∧ accD ++ rest = out ∧ lcL w m0 g ct ce (wipeE ρ vs) (ds.drop i) m1 = some (rest, m2), ?_, ?_⟩
    · exact ⟨ds.length, ι0, m0, [], [], out, by omega, Nat.zero_le _, gr_new r0 hp _, rm_new r0 hp _, r0.none_notin hp, upd_same, .nil, Nat.zero_le _, rfl, by simpa using e2⟩
    rintro i n H ⟨ι1, m1, accD, acc, rest, rfl, hil, gg, rr, hpn, hpa, ra, hal, hout, ee⟩
    by_cases hlt : i < ds.length
    · rw [List.drop_eq_getElem_cons hlt] at ee
      unfold lcL at ee
      split at ee
      · rename_i hw
        obtain ⟨ρ2, e2, ee⟩ := Option.bind_eq_some_iff.mp ee
        obtain ⟨⟨b, m3⟩, e3, ee⟩ := Option.bind_eq_some_iff.mp ee
        obtain ⟨go, yl⟩ := wk.go i ds[i] ι1 m1 H (List.getElem?_eq_getElem hlt) gg rr hw
        refine .inr ⟨go, fun H' => ∃ ι1 m1 accD acc rest, Gr ι0 ι1 H0 H' ∧ RM K ι1 m1 H' ∧ p ∉ ι1 ∧ H' p = some (.lst acc) ∧ RVs K ι1 H' accD acc ∧ accD.length ≤ i + 1 ∧ accD ++ rest = out ∧ lcL w m0 g ct ce (wipeE ρ vs) (ds.drop (i + 1)) m1 = some (rest, m2), ?_, fun x H1 hy => ?_⟩
        · rintro H' ⟨ι1, m1, accD, acc, rest, a1, a2, a3, a4, a5, a6, a7, a8⟩
          exact ⟨ds.length - (i + 1), by omega, ι1, m1, accD, acc, rest, rfl, hlt, a1, a2, a3, a4, a5, a6, a7, a8⟩
        obtain ⟨r1, g1, h1⟩ := yl x H1 hy
        have sB : RS K ι1 H1 (L2.wipe σ vs) (wipeE ρ vs) := (s0.gr r0 gg).gr rr g1
        refine hg _ _ ρ2 x ι1 _ H1 _ e2 h1 sB fun σ2 s2 kk => ⟨?_, ?_⟩
        · refine (wipe_eq ?_ fun j hj => kk j fun z => hj (hjs j z)).trans ?_
          · rw [s2.len, hgl _ _ _ e2, ← sB.len]
          · refine wipe_eq (wipe_length _ _) fun j hj => ?_
            rw [wipe_out hj]
        refine ht ρ2 m1 b m3 ι1 σ2 H1 _ e3 r1 s2 fun ι3 H3 g3 r3 => ?_
        have hpa1 : H1 p = some (.lst acc) := g1.keep _ _ hpa hpn
        have hpa3 : H3 p = some (.lst acc) := g3.keep _ _ hpa1 hpn
        have hpn3 : p ∉ ι3 := fun z => by rw [g3.new p z hpn] at hpa1; cases hpa1
        have ra3 := (ra.gr rr g1).gr r1 g3
        have gA := (gg.trans g1).trans g3
        cases b with
        | false =>
          simp only [Bool.false_eq_true, if_false] at ee ⊢
          exact ⟨ι3, m3, accD, acc, rest, gA, r3, hpn3, hpa3, ra3, by omega, hout, ee⟩
        | true =>
          simp only [if_true] at ee ⊢
          obtain ⟨⟨y, m4⟩, e4, ee⟩ := Option.bind_eq_some_iff.mp ee
          obtain ⟨⟨rs, m5⟩, e5, ee⟩ := Option.bind_eq_some_iff.mp ee
          cases ee
          refine he ρ2 m3 y m4 ι3 σ2 H3 _ e4 r3 (s2.gr r1 g3) fun ι4 H4 v g4 r4 h4 => ?_
          have hpa4 : H4 p = some (.lst acc) := g4.keep _ _ hpa3 hpn3
          have hpn4 : p ∉ ι4 := fun z => by rw [g4.new p z hpn3] at hpa3; cases hpa3
          have ra4 := ra3.gr r3 g4
          refine ⟨acc, hpa4, ?_, ?_⟩
          · have hz' : ds.length ≤ sizeLine := hz
            rw [← ra4.length]; omega
          have ob : Ob H4 p := .inl ⟨_, hpa4⟩
          refine ⟨ι4, m4, accD ++ [y], acc ++ [v], rs, gr_side (gA.trans g4) hp hpn4 _, rm_side r4 hpn4 ob _, hpn4, upd_same, ?_, ?_, ?_, e5⟩
          · exact (ra4.append (.cons h4 .nil)).mv (mv_upd ob (List.prefix_refl _) _)
          · rw [List.length_append]; simp; omega
          · rw [List.append_assoc]; exact hout
      · cases ee
    · have hie : i = ds.length := by omega
      subst hie
      rw [List.drop_length] at ee
      unfold lcL at ee
      split at ee
      · rename_i hw
        cases ee
        refine .inl ⟨wk.stop ι1 m2 H gg rr hw, ?_⟩
        rw [List.append_nil] at hout
        subst hout
        have ob : Ob H p := .inl ⟨_, hpa⟩
        have hu := upd_self hpa
        have gp : Gr ι0 (ι1 ++ [p]) H0 H := ⟨gg.pre.trans (List.prefix_append _ _), fun a ha hn => by
          rcases List.mem_append.mp ha with ha | ha
          · exact gg.new a ha hn
          · rw [List.mem_singleton.mp ha]; exact hp, gg.keep, gg.lock⟩
        have mvp : Mv ι1 (ι1 ++ [p]) H H := by have := mv_upd (ι := ι1) ob (List.prefix_append ι1 [p]) (.lst acc); rw [hu] at this; exact this
        have ad : RM K (ι1 ++ [p]) (m2 ++ [.lst accD]) H := by
          have := rm_adopt (o := .lst acc) (u := .lst accD) rr hpn ob (by rw [hu]; exact ⟨acc, hpa, ra.mv mvp⟩)
          rw [hu] at this; exact this
        exact k (ι1 ++ [p]) H _ (g0.trans gp) ad (.ref (at_push rr))
      · cases ee
  · cases e
/-! ### the reading that a function alone gives -/
def tEc (K : PySem.W.Frag) (c : CE) : TE := fun σ H Q => ∃ (ρ : En) (m : M) (d : D) (m' : M) (ι : List Addr), c ρ m = some (d, m') ∧ RM K ι m H ∧ RS K ι H σ ρ ∧ Ko K ι H d m' Q
theorem LE.pe {e : Expr} {c : CE} (h : LE X e c) : PE X e (tEc X.K c) := by
  obtain ⟨t, pt, ht⟩ := h.ex
  intro pins s σ H Q I ⟨ρ, m, d, m', ι, e, r, ss, k⟩
  exact pt pins s σ H Q I (ht ρ m d m' ι σ H Q e r ss k)
def tTc (K : PySem.W.Frag) (c : CT) : TT := fun σ H Q => ∃ (ρ : En) (m : M) (b : Bool) (m' : M) (ι : List Addr), c ρ m = some (b, m') ∧ RM K ι m H ∧ RS K ι H σ ρ ∧ Kt K ι H m' (Q b)
theorem LTs.pts {e : List Expr} {c : CT} (h : LTs X e c) : PTs X e (tTc X.K c) := by
  obtain ⟨t, pt, ht⟩ := h.ex
  intro pins s σ H Q I ⟨ρ, m, d, m', ι, e, r, ss, k⟩
  exact pt pins s σ H Q I (ht ρ m d m' ι σ H Q e r ss k)
def tGc (K : PySem.W.Frag) (js : List Nat) (g : D → En → Option En) : TG := fun v σ H Q => ∃ (d : D) (ρ ρ' : En) (ι : List Addr), g d ρ = some ρ' ∧ RV K ι H d v ∧ RS K ι H σ ρ ∧ ∀ σ', RS K ι H σ' ρ' → (∀ j, j ∉ js → σ'[j]? = σ[j]?) → Q σ' H
theorem LG.pg {tg : Expr} {js : List Nat} {g : D → En → Option En} (h : LG X tg js g) : PG X tg (tGc X.K js g) := by
  obtain ⟨t, pt, ht⟩ := h.ex
  intro pins s σ H v u Q I rv ⟨d, ρ, ρ', ι, e, r, ss, k⟩
  exact pt pins s σ H v u Q I rv (ht d ρ ρ' v ι σ H Q e r ss k)
theorem le_lc {elt tg iter : Expr} {ifs : List Expr} {scope : Scope} {own : List (Str × Nat)} {pos : Pos} {ci : CI} {js : List Nat} {g : D → En → Option En} {ct : CT} {ce : CE} (hc : X.calm = true) (hN : X.N.Nodup) (hi : LI X tg iter ci) (ok : BlkOk X.N X.env.scope scope own)
    (hg : ∀ (s : Shared) (H : Hp) (C : Addr) (cl : List (Str × Addr)) (fp : List Addr), LG (X.blk s H scope (compEnvC scope cl C X.env) fp) tg js g)
    (ht : ∀ (s : Shared) (H : Hp) (C : Addr) (cl : List (Str × Addr)) (fp : List Addr), LTs (X.blk s H scope (compEnvC scope cl C X.env) fp) ifs ct)
    (he : ∀ (s : Shared) (H : Hp) (C : Addr) (cl : List (Str × Addr)) (fp : List Addr), LE (X.blk s H scope (compEnvC scope cl C X.env) fp) elt ce)
    (hjs : ∀ j ∈ js, j ∈ own.map (·.2) := by decide) (hgl : ∀ d ρ ρ', g d ρ = some ρ' → ρ'.length = ρ.length := by exact gSet_len)
    (hs : ∀ x, foldedSetIterable iter X.env x = pure x := by intro _; rfl) : LE X (.ListComp elt [⟨tg, iter, ifs, 0⟩] scope pos) (cLc ci g ct ce (own.map (·.2))) := by
  obtain ⟨wi, pi, hi⟩ := hi.ex
  refine ⟨_, pe_lc (g := tGc X.K js g) (tt := tTc X.K ct) (te := tEc X.K ce) hc hN pi ok (fun s H C cl fp => (hg s H C cl fp).pg) (fun s H C cl fp => (ht s H C cl fp).pts) (fun s H C cl fp => (he s H C cl fp).pe) hs, fun ρ m d m' ι σ H Q e r s k => ?_⟩
  exact lc_read hjs hi (fun d ρ ρ' v ι σ H Q e r s k => ⟨d, ρ, ρ', ι, e, r, s, k⟩) (fun ρ m b m' ι σ H Q e r s k => ⟨ρ, m, b, m', ι, e, r, s, k⟩) (fun ρ m b m' ι σ H Q e r s k => ⟨ρ, m, b, m', ι, e, r, s, k⟩) hgl e r s k
end
/-! ### defs -/
abbrev FD := List D → M → Option (D × M)
/-- what a def promises by its function -/
def spF (K : PySem.W.Frag) (n : Nat) (F : FD) : Sp := fun vs H Q _ => ∃ (ι : List Addr) (ds : List D) (m : M) (d : D) (m' : M), F ds m = some (d, m') ∧ ds.length = n ∧ RM K ι m H ∧ RVs K ι H ds vs ∧ Ko K ι H d m' Q
theorem spF_len {K : PySem.W.Frag} {n : Nat} {F : FD} : ∀ vs H Q E, spF K n F vs H Q E → vs.length = n := fun vs H Q E ⟨ι, ds, m, d, m', _, hn, _, hv, _⟩ => by rw [← hv.length]; exact hn
/-- the names at the beginning -/
def enS (n : Nat) (ds : List D) : En := ds.map some ++ List.replicate (n - ds.length) none
def runB (n : Nat) (c : CS) : FD := fun ds m => match c (enS n ds) m with
  | some (.rt d, m') => some (d, m')
  | some (.nx _, m') => some (.non, m')
  | _ => none
section
variable {X : Cx}
theorem le_call {n k : Nat} {F : FD} {CX : CXT} {f : Addr} {fd : FuncData} {ps : List Str} {x : Str} {e : Expr} {es : List Expr} {cs : CA} {E : XK} {p pos : Pos} (G : FnOk X.prog X.w X.K X.mg X.base CX k f fd ps (spF X.K n F)) (hr : Room k X.A) (hg : Gl X x) (hm : X.mg x = some (.ref f)) (hk : PySem.W.keepIn X.K (.ref f) = true)
    (hb : Binds X.K fd ps []) (hx : Passes CX X E) (ha : LA X (e :: es) cs) (hl : (e :: es).length = n := by rfl) (hdb : (x == ("__debug__" : Str)) = false := by decide) (he : starEach (e :: es) X.env = (false, eval e X.env) :: starEach es X.env := by rfl) (hpl : (backTo pos (starEach es X.env)).any (·.1) = false := by rfl)
    (hcl : ∀ ρ m ds m', cs ρ m = some (ds, m') → ds.length = n) : LE X (.Call (.Name x p) (e :: es) [] pos) (cCall F cs) := by
  obtain ⟨t, pt, ht⟩ := ha.ex
  refine ⟨_, pe_call (E := E) G hr hg hm hk hb .nil hx pt hdb he hpl, fun ρ m d m' ι σ H Q e r s k => ?_⟩
  unfold cCall at e
  obtain ⟨⟨ds, m1⟩, e1, e⟩ := Option.bind_eq_some_iff.mp e
  refine ht ρ m ds m1 ι σ H _ e1 r s fun ι1 H1 vs g1 r1 h1 => ?_
  rw [List.append_nil]
  exact ⟨ι1, ds, m1, d, m', e, hcl _ _ _ _ e1, r1, h1, fun ι' H' v g r h => k ι' H' v (g1.trans g) r h⟩
end
theorem cCons_len {c : CE} {cs : CA} {n : Nat} (h : ∀ ρ m ds m', cs ρ m = some (ds, m') → ds.length = n) : ∀ ρ m ds m', cCons c cs ρ m = some (ds, m') → ds.length = n + 1 := fun ρ m ds m' e => by
  unfold cCons at e
  obtain ⟨⟨d, m1⟩, e1, e⟩ := Option.bind_eq_some_iff.mp e
  obtain ⟨⟨es, m2⟩, e2, e⟩ := Option.bind_eq_some_iff.mp e
  cases e
  rw [List.length_cons, h _ _ _ _ e2]
theorem cNil_len : ∀ ρ m ds m', cNil ρ m = some (ds, m') → ds.length = 0 := fun ρ m ds m' e => by cases e; rfl
theorem rs_start {K : PySem.W.Frag} {ι : List Addr} {H : Hp} {N : List Str} {ds : List D} {vs : List V} (h : RVs K ι H ds vs) : RS K ι H (L2.start N vs) (enS N.length ds) := by
  refine ⟨?_, fun i d e => ?_⟩
  · unfold L2.start enS
    rw [List.length_append, List.length_append, List.length_map, List.length_map, List.length_replicate, List.length_replicate, h.length]
  · unfold enS at e
    unfold L2.start
    by_cases hi : i < ds.length
    · rw [List.getElem?_append_left (by rw [List.length_map]; exact hi), List.getElem?_map] at e
      obtain ⟨x, e1, e2⟩ := Option.map_eq_some_iff.mp e
      cases e2
      obtain ⟨v, h1, h2⟩ := h.get e1
      exact ⟨v, by rw [List.getElem?_append_left (by rw [List.length_map, ← h.length]; exact hi), List.getElem?_map, h1]; rfl, h2⟩
    · rw [List.getElem?_append_right (by rw [List.length_map]; omega)] at e
      have := List.getElem?_replicate (n := N.length - ds.length) (i := i - (ds.map some).length) (a := (none : Option D))
      rw [this] at e
      split at e <;> cases e
section
variable {P : Program} {w : World} {K : PySem.W.Frag} {mg : Str → Option Value} {base : Heap}
/-- THE RULE for a def: its function is its body's -/
theorem fn_def {x qual : Str} {st : Stmt} {f : Addr} {fd : FuncData} {N ps : List Str} {k : Nat} {c : CS} (F : Fun K x qual st f fd) (S : FnScope N ps (defScope st))
    (h : ∀ (cdv : Value) (A : Around) (outer : List Env) (s : Shared) (H : Hp) (E : XK), Room k (A.deeper (envOfC qual (defScope st) s.heap.objs.size f cdv)) → LSs (cxOf CX0 P w K mg base N qual (defScope st) f cdv A outer s H E).nox (defBody st) c) :
    FnOk P w K mg base CX0 (k + 1) f fd ps (spF K ps.length (runB N.length c)) := by
  refine F.ok S spF_len fun cdv A outer s H vs Q E hr hsp => ?_
  obtain ⟨ι, ds, m, d, m', e, hn, r, hv, kk⟩ := hsp
  obtain ⟨t, pt, ht⟩ := (h cdv A outer s H E hr).ex
  refine ⟨t, pt, ?_⟩
  unfold runB at e
  split at e
  · rename_i d1 m1 e1
    cases e
    exact ht (enS N.length ds) m _ m' ι _ H _ e1 r (rs_start hv) fun ι' H' g r' v hv' => kk ι' H' v g r' hv'
  · rename_i ρ1 m1 e1
    cases e
    exact ht (enS N.length ds) m _ m' ι _ H _ e1 r (rs_start hv) fun ι' H' g r' σ' _ => kk ι' H' _ g r' .non
  · cases e
/-- a promise that asks nothing holds of any def -/
theorem fn_none {f : Addr} {fd : FuncData} {ps : List Str} {k : Nat} : FnOk P w K mg base CX0 k f fd ps (spF K ps.length fun _ _ => none) :=
  ⟨fun vs H Q E h => (by obtain ⟨_, _, _, _, _, e, _⟩ := h; cases e), fun A outer s H args us vs Q E _ _ _ _ h => (by obtain ⟨_, _, _, _, _, e, _⟩ := h; cases e)⟩
end
/-- the law's own call -/
theorem sp_law {K : PySem.W.Frag} {F : FD} (h : ∀ ns : List Int, ns.length ≤ 63 → ∃ m', F [.fls (ns.map D.int)] [] = some (.bl true, m')) (H : Hp) (a : Addr) (ns : List Int) (hl : ns.length ≤ 63) (hO : Only H) (hS : SqL K H a (ns.map V.int)) :
    spF K 1 F [.ref a] H (fun v _ => v = .bl true) fun _ _ _ => False := by
  obtain ⟨m', e⟩ := h ns hl
  have hf : SqF K H a (ns.map V.int) := by
    rcases hS with (h | h) | h
    · rcases hO a with q | ⟨o, xs, q⟩ <;> rw [h] at q <;> cases q
    · exact .inl h
    · exact .inr h
  refine ⟨[], _, [], _, m', e, rfl, ⟨rfl, List.nodup_nil, fun i o a h => by simp at h⟩, .cons (.fls hf (RVs.ofInts ns)) .nil, fun ι' H' v g r hv => ?_⟩
  cases hv
  rfl
end L3

set_option Elab.async false
set_option linter.all false
set_option maxRecDepth 100000
/-! WP: what a function of the data layer comes to, step by step -/
namespace L3
open PySem L2
/-- it comes to something with P -/
inductive W {α β : Type} (r : Option (α × β)) (P : α → β → Prop) : Prop where
  | mk (a : α) (b : β) (e : r = some (a, b)) (h : P a b)
section
variable {α β γ δ : Type}
theorem W.some {a : α} {b : β} {P : α → β → Prop} (h : P a b) : W (some (a, b)) P := ⟨a, b, rfl, h⟩
theorem W.bind {x : Option (α × β)} {f : α × β → Option (γ × δ)} {P : γ → δ → Prop} (h : W x fun a b => W (f (a, b)) P) : W (x.bind f) P := by
  obtain ⟨a, b, rfl, c, d, e, h⟩ := h
  exact ⟨c, d, e, h⟩
theorem W.mono {x : Option (α × β)} {P Q : α → β → Prop} (h : W x P) (k : ∀ a b, P a b → Q a b) : W x Q := by
  obtain ⟨a, b, e, h⟩ := h
  exact ⟨a, b, e, k a b h⟩
theorem W.bindO {x : Option α} {f : α → Option (γ × δ)} {P : γ → δ → Prop} {a : α} (e : x = Option.some a) (h : W (f a) P) : W (x.bind f) P := by rw [e]; exact h
end
theorem W.ex {x : Option (D × M)} {d : D} (h : W x fun e _ => e = d) : ∃ m', x = Option.some (d, m') := by
  obtain ⟨a, m', e, h⟩ := h
  subst h
  exact ⟨m', e⟩
section
variable {ρ : En} {m : M} {P : D → M → Prop}
theorem w_var {i : Nat} {d : D} (e : ρ[i]? = some (some d)) (h : P d m) : W (cVar i ρ m) P := ⟨d, m, by unfold cVar; rw [e], h⟩
theorem w_c {d : D} (h : P d m) : W (cC d ρ m) P := ⟨_, _, rfl, h⟩
theorem w_nil {P : List D → M → Prop} (h : P [] m) : W (cNil ρ m) P := ⟨_, _, rfl, h⟩
theorem w_cons {c : CE} {cs : CA} {P : List D → M → Prop} (h : W (c ρ m) fun d m1 => W (cs ρ m1) fun ds m2 => P (d :: ds) m2) : W (cCons c cs ρ m) P :=
  W.bind (h.mono fun d m1 h => W.bind (h.mono fun ds m2 h => W.some h))
theorem w_c2 {f : F2} {a b : CE} (h : W (a ρ m) fun x m1 => W (b ρ m1) fun y m2 => W (f x y m2) P) : W (c2 f a b ρ m) P :=
  W.bind (h.mono fun p _ h => W.bind h)
theorem w_call {g : F1} {cs : CA} (h : W (cs ρ m) fun ds m1 => W (g ds m1) P) : W (cCall g cs ρ m) P := W.bind h
theorem w_tup {cs : CA} (h : W (cs ρ m) fun ds m1 => ds.length ≤ sizeLine ∧ P (.tup ds) m1) : W (cTup cs ρ m) P :=
  W.bind (h.mono fun ds m1 h => ⟨_, _, by unfold aTup; rw [if_pos h.1], h.2⟩)
theorem w_lst {cs : CA} (h : W (cs ρ m) fun ds m1 => ds.length ≤ sizeLine ∧ P (.ref m1.length) (m1 ++ [.lst ds])) : W (cLst cs ρ m) P :=
  W.bind (h.mono fun ds m1 h => ⟨_, _, by unfold aLst; rw [if_pos h.1], h.2⟩)
theorem w_if {c : CT} {a b : CE} (h : W (c ρ m) fun t m1 => (t = true → W (a ρ m1) P) ∧ (t = false → W (b ρ m1) P)) : W (cIf c a b ρ m) P :=
  W.bind (h.mono fun t m1 h => by
    cases t with
    | true => exact h.1 rfl
    | false => exact h.2 rfl)
theorem w_neg {c : CE} (h : W (c ρ m) fun d m1 => ∃ i, d = .int i ∧ P (.int (-i)) m1) : W (cNeg c ρ m) P := by
  obtain ⟨d, m1, e, i, rfl, h⟩ := h
  exact ⟨_, _, by unfold cNeg; rw [e], h⟩
theorem w_orV {a b : CE} (h : W (a ρ m) fun d m1 => ∃ c, d = .bl c ∧ (c = true → P (.bl true) m1) ∧ (c = false → W (b ρ m1) P)) : W (cOrV a b ρ m) P := by
  obtain ⟨d, m1, e, c, rfl, h⟩ := h
  unfold cOrV
  rw [e]
  cases c with
  | false => exact h.2 rfl
  | true => exact ⟨_, _, rfl, h.1 rfl⟩
theorem w_B {c : CE} {P : Bool → M → Prop} (h : W (c ρ m) fun d m1 => ∃ b, d = .bl b ∧ P b m1) : W (cB c ρ m) P := by
  obtain ⟨d, m1, e, b, rfl, h⟩ := h
  exact ⟨_, _, by unfold cB; rw [e], h⟩
theorem w_tru {c : CE} {P : Bool → M → Prop} (h : W (c ρ m) fun d m1 => ∃ b, truD d m1 = some b ∧ P b m1) : W (cTru c ρ m) P :=
  W.bind (h.mono fun d m1 ⟨b, e, h⟩ => W.bindO e (W.some h))
theorem w_notT {c : CT} {P : Bool → M → Prop} (h : W (c ρ m) fun b m1 => P (!b) m1) : W (cNotT c ρ m) P := W.bind (h.mono fun b m1 h => W.some h)
theorem w_andT {a b : CT} {P : Bool → M → Prop} (h : W (a ρ m) fun t m1 => (t = true → W (b ρ m1) P) ∧ (t = false → P false m1)) : W (cAndT a b ρ m) P :=
  W.bind (h.mono fun t m1 h => by
    cases t with
    | true => exact h.1 rfl
    | false => exact W.some (h.2 rfl))
theorem w_orT {a b : CT} {P : Bool → M → Prop} (h : W (a ρ m) fun t m1 => (t = true → P true m1) ∧ (t = false → W (b ρ m1) P)) : W (cOrT a b ρ m) P :=
  W.bind (h.mono fun t m1 h => by
    cases t with
    | false => exact h.2 rfl
    | true => exact W.some (h.1 rfl))
theorem w_isi {n : String} {c : CE} (h : W (c ρ m) fun d m1 => ∃ t, tyD d m1 = some t ∧ P (.bl (kit t n)) m1) : W (cIsi n c ρ m) P :=
  W.bind (h.mono fun d m1 ⟨t, e, h⟩ => W.bindO e (W.some h))
theorem w_noPart {P : Option Int → M → Prop} (h : P none m) : W (cNoPart ρ m) P := ⟨_, _, rfl, h⟩
theorem w_part {c : CE} {P : Option Int → M → Prop} (h : W (c ρ m) fun d m1 => ∃ i, d = .int i ∧ P (some i) m1) : W (cPart c ρ m) P := by
  obtain ⟨d, m1, e, i, rfl, h⟩ := h
  exact ⟨_, _, by unfold cPart; rw [e], h⟩
theorem w_sl {c : CE} {l h : CO} (hh : W (c ρ m) fun x m1 => W (l ρ m1) fun lo m2 => W (h ρ m2) fun hi m3 => W (slD x lo hi m3) P) : W (cSl c l h ρ m) P :=
  W.bind (hh.mono fun _ _ hh => W.bind (hh.mono fun _ _ hh => W.bind hh))
theorem w_dict {c : En → M → Option (List (Key × D) × M)} (h : W (c ρ m) fun ps m1 => P (.ref m1.length) (m1 ++ [.dic (ps.foldl (fun acc kv => putD acc kv.1 kv.2) [])])) : W (cDict c ρ m) P :=
  W.bind (h.mono fun _ _ h => W.some h)
theorem w_pnil {P : List (Key × D) → M → Prop} (h : P [] m) : W (cPNil ρ m) P := ⟨_, _, rfl, h⟩
theorem w_pcons {ck cv : CE} {cs : En → M → Option (List (Key × D) × M)} {P : List (Key × D) → M → Prop} (h : W (ck ρ m) fun k m1 => W (cv ρ m1) fun v m2 => W (cs ρ m2) fun r m3 => ∃ ky, keyD k = some ky ∧ P ((ky, v) :: r) m3) : W (cPCons ck cv cs ρ m) P :=
  W.bind (h.mono fun _ _ h => W.bind (h.mono fun _ _ h => W.bind (h.mono fun _ _ ⟨ky, e, h⟩ => W.bindO e (W.some h))))
/-! operations -/
theorem w_addI {i j : Int} (h : P (.int (i + j)) m) : W (fAdd (.int i) (.int j) m) P := ⟨_, _, rfl, h⟩
theorem w_addL {i j : Nat} {xs ys : List D} (e1 : m[i]? = some (.lst xs)) (e2 : m[j]? = some (.lst ys)) (hz : (xs ++ ys).length ≤ sizeLine) (h : P (.ref m.length) (m ++ [.lst (xs ++ ys)])) : W (fAdd (.ref i) (.ref j) m) P :=
  ⟨_, _, by show (match addL (.ref i) (.ref j) m with | some r => some r | none => addB (.ref i) (.ref j) m) = _; unfold addL aLst; simp only [e1, e2, if_pos hz], h⟩
theorem at_last {m : M} {o : MO} : (m ++ [o])[m.length]? = some o := by simp
theorem at_prev {m : M} {o o' : MO} : (m ++ [o] ++ [o'])[m.length]? = some o := by simp
theorem at_prev2 {m : M} {o o' o'' : MO} : (m ++ [o] ++ [o'] ++ [o''])[m.length]? = some o := by simp
theorem w_sub {i j : Int} (h : P (.int (i - j)) m) : W (fSub (.int i) (.int j) m) P := ⟨_, _, rfl, h⟩
theorem w_mul {i j : Int} (hc : (-(2 ^ 64) < i ∧ i < 2 ^ 64) ∨ (-(2 ^ 64) < j ∧ j < 2 ^ 64)) (h : P (.int (i * j)) m) : W (fMul (.int i) (.int j) m) P := ⟨_, _, by
  show (if _ = true then _ else _) = _
  rw [if_pos (by simpa only [Bool.or_eq_true, Bool.and_eq_true, decide_eq_true_eq] using hc)], h⟩
theorem w_div {i j : Int} (hc : 0 < j ∧ j < 1073741824) (h : P (.int (i / j)) m) : W (fDiv (.int i) (.int j) m) P := ⟨_, _, by
  show (if _ = true then _ else _) = _
  rw [if_pos (by simpa only [Bool.and_eq_true, decide_eq_true_eq] using hc)], h⟩
theorem w_mod {i j : Int} (hc : 0 < j) (h : P (.int (i % j)) m) : W (fMod (.int i) (.int j) m) P := ⟨_, _, by
  show (if _ = true then _ else _) = _
  rw [if_pos (by simpa only [decide_eq_true_eq] using hc)], h⟩
theorem w_pow {i j : Int} (hc : (0 ≤ j ∧ j ≤ 1000000) ∧ i.natAbs < 2 ^ 64) (h : P (.int (i ^ j.toNat)) m) : W (fPow (.int i) (.int j) m) P := ⟨_, _, by
  show (if _ = true then _ else _) = _
  rw [if_pos (by simpa only [Bool.and_eq_true, decide_eq_true_eq] using hc)], h⟩
theorem w_lt {i j : Int} (h : P (.bl (decide (i < j))) m) : W (fLt (.int i) (.int j) m) P := ⟨_, _, rfl, h⟩
theorem w_le {i j : Int} (h : P (.bl (decide (i ≤ j))) m) : W (fLe (.int i) (.int j) m) P := ⟨_, _, rfl, h⟩
theorem w_gt {i j : Int} (h : P (.bl (decide (j < i))) m) : W (fGt (.int i) (.int j) m) P := ⟨_, _, rfl, h⟩
theorem w_eqI {i j : Int} (h : P (.bl (decide (i = j))) m) : W (fEq (.int i) (.int j) m) P := ⟨_, _, rfl, h⟩
theorem w_neI {i j : Int} (h : P (.bl (!decide (i = j))) m) : W (fNe (.int i) (.int j) m) P := ⟨_, _, rfl, h⟩
theorem w_eqS {i j : Str} (h : P (.bl (decide (i = j))) m) : W (fEq (.str i) (.str j) m) P := ⟨_, _, rfl, h⟩
theorem w_neS {i j : Str} (h : P (.bl (!decide (i = j))) m) : W (fNe (.str i) (.str j) m) P := ⟨_, _, rfl, h⟩
theorem w_ixL {n : Nat} {i : Int} {ds : List D} {d : D} (e : m[n]? = some (.lst ds)) (hd : atI ds i = some d) (h : P d m) : W (ixD (.ref n) (.int i) m) P := ⟨_, _, by unfold ixD; simp only [e, hd, Option.bind_some], h⟩
theorem w_ixT {i : Int} {ds : List D} {d : D} (hd : atI ds i = some d) (h : P d m) : W (ixD (.tup ds) (.int i) m) P := ⟨_, _, by unfold ixD; simp only [hd, Option.bind_some], h⟩
theorem w_getD {n : Nat} {y : D} {kvs : List (Key × D)} {k : Key} {d : D} (e : m[n]? = some (.dic kvs)) (ek : keyD y = some k) (hd : valD kvs k = some d) (h : P d m) : W (getD2 (.ref n) y m) P := ⟨_, _, by unfold getD2 dicD; simp only [e, ek, hd, Option.bind_some], h⟩
theorem w_slF {ds : List D} {lo hi : Option Int} (h : P (.ref m.length) (m ++ [.lst (cutD ds lo hi)])) : W (slD (.fls ds) lo hi m) P := ⟨_, _, rfl, h⟩
theorem w_lenL {n : Nat} {ds : List D} (e : m[n]? = some (.lst ds)) (h : P (.int ds.length) m) : W (f1 lenD [.ref n] m) P := ⟨_, _, by unfold f1 lenD; simp only [e], h⟩
theorem w_lenT {ds : List D} (h : P (.int ds.length) m) : W (f1 lenD [.tup ds] m) P := ⟨_, _, rfl, h⟩
theorem w_listT {ds : List D} (h : P (.ref m.length) (m ++ [.lst ds])) : W (f1 listD [.tup ds] m) P := ⟨_, _, rfl, h⟩
/-! statements -/
variable {R : Fl → M → Prop}
theorem w_next (h : R (.nx ρ) m) : W (cNext ρ m) R := ⟨_, _, rfl, h⟩
theorem w_seqN {a b : CS} (h : W (a ρ m) fun f m1 => ∃ ρ1, f = .nx ρ1 ∧ W (b ρ1 m1) R) : W (cSeq a b ρ m) R := by
  obtain ⟨f, m1, e, ρ1, rfl, h⟩ := h
  unfold cSeq
  rw [e]
  exact h
theorem w_ret {c : CE} (h : W (c ρ m) fun d m1 => R (.rt d) m1) : W (cRet c ρ m) R := W.bind (h.mono fun _ _ h => W.some h)
theorem w_ifS {c : CT} {a b : CS} (h : W (c ρ m) fun t m1 => (t = true → W (a ρ m1) R) ∧ (t = false → W (b ρ m1) R)) : W (cIfS c a b ρ m) R :=
  W.bind (h.mono fun t m1 h => by
    cases t with
    | true => exact h.1 rfl
    | false => exact h.2 rfl)
theorem w_asg {c : CE} {i : Nat} (h : W (c ρ m) fun d m1 => R (.nx (ρ.set i (some d))) m1) : W (cAsg c (gSet i) ρ m) R := W.bind (h.mono fun _ _ h => W.bindO rfl (W.some h))
theorem w_put {d k v : CE} (h : W (v ρ m) fun x m1 => W (d ρ m1) fun y m2 => W (k ρ m2) fun z m3 => ∃ n kvs ky, dicD y m3 = some (n, kvs) ∧ keyD z = some ky ∧ kvs.length < sizeLine ∧ R (.nx ρ) (m3.set n (.dic (putD kvs ky x)))) : W (cPut d k v ρ m) R :=
  W.bind (h.mono fun _ _ h => W.bind (h.mono fun _ _ h => W.bind (h.mono fun _ _ ⟨n, kvs, ky, e1, e2, hz, h⟩ => W.bindO e1 (W.bindO e2 (by rw [if_pos hz]; exact W.some h)))))
theorem w_sSeq {a b c : CS} (h : W (cSeq a (cSeq b c) ρ m) R) : W (cSeq (cSeq a b) c ρ m) R := by
  have e : cSeq (cSeq a b) c ρ m = cSeq a (cSeq b c) ρ m := by
    unfold cSeq
    cases a ρ m with
    | none => rfl
    | some p =>
      obtain ⟨f, m1⟩ := p
      cases f <;> rfl
  rw [e]; exact h
theorem w_sNext {c : CS} (h : W (c ρ m) R) : W (cSeq cNext c ρ m) R := h
theorem w_sIf {c : CT} {a b r : CS} (h : W (c ρ m) fun t m1 => (t = true → W (cSeq a r ρ m1) R) ∧ (t = false → W (cSeq b r ρ m1) R)) : W (cSeq (cIfS c a b) r ρ m) R := by
  obtain ⟨t, m1, e, h⟩ := h
  have e2 : cSeq (cIfS c a b) r ρ m = if t = true then cSeq a r ρ m1 else cSeq b r ρ m1 := by
    unfold cSeq cIfS
    rw [e]
    cases t <;> rfl
  rw [e2]
  cases t with
  | true => exact h.1 rfl
  | false => exact h.2 rfl
theorem w_sRet {c : CE} {r : CS} (h : W (c ρ m) fun d m1 => R (.rt d) m1) : W (cSeq (cRet c) r ρ m) R := by
  obtain ⟨d, m1, e, h⟩ := h
  exact ⟨_, _, by unfold cSeq cRet; rw [e]; rfl, h⟩
theorem w_sAsg {c : CE} {i : Nat} {r : CS} (h : W (c ρ m) fun d m1 => W (r (ρ.set i (some d)) m1) R) : W (cSeq (cAsg c (gSet i)) r ρ m) R :=
  w_seqN (w_asg (h.mono fun d m1 h => ⟨_, rfl, h⟩))
theorem w_sPut {d k v : CE} {r : CS} (h : W (v ρ m) fun x m1 => W (d ρ m1) fun y m2 => W (k ρ m2) fun z m3 => ∃ n kvs ky, dicD y m3 = some (n, kvs) ∧ keyD z = some ky ∧ kvs.length < sizeLine ∧ W (r ρ (m3.set n (.dic (putD kvs ky x)))) R) : W (cSeq (cPut d k v) r ρ m) R :=
  w_seqN (w_put (h.mono fun _ _ h => h.mono fun _ _ h => h.mono fun _ _ ⟨n, kvs, ky, e1, e2, hz, h⟩ => ⟨n, kvs, ky, e1, e2, hz, _, rfl, h⟩))
/-- a def that returns -/
theorem w_run {n : Nat} {c : CS} {ds : List D} (h : W (c (enS n ds) m) fun f m1 => ∃ d, f = .rt d ∧ P d m1) : W (runB n c ds m) P := by
  obtain ⟨f, m1, e, d, rfl, h⟩ := h
  exact ⟨_, _, by unfold runB; rw [e], h⟩
/-- a loop by what holds between the turns -/
theorem w_forL {w : Option Nat} {m0 : M} {g : D → En → Option En} {body : CS} (I : List D → En → M → Prop) (hw : ∀ ds ρ m, I ds ρ m → Wt w m0 m)
    (hs : ∀ d ds ρ m, I (d :: ds) ρ m → ∃ ρ1, g d ρ = some ρ1 ∧ W (body ρ1 m) fun f m1 => match f with
      | .nx ρ2 => I ds ρ2 m1
      | .ct ρ2 => I ds ρ2 m1
      | .bk ρ2 => R (.nx ρ2) m1
      | .rt v => R (.rt v) m1)
    (he : ∀ ρ m, I [] ρ m → R (.nx ρ) m) : ∀ (ds : List D) (ρ : En) (m : M), I ds ρ m → W (forL w m0 g body ds ρ m) R
  | [], ρ, m, h => by
    unfold forL
    rw [if_pos (hw _ _ _ h)]
    exact W.some (he ρ m h)
  | d :: ds, ρ, m, h => by
    unfold forL
    rw [if_pos (hw _ _ _ h)]
    obtain ⟨ρ1, e, f, m2, e2, q⟩ := hs d ds ρ m h
    refine W.bindO e ?_
    rw [e2]
    cases f with
    | nx ρ2 => exact w_forL I hw hs he ds ρ2 m2 q
    | ct ρ2 => exact w_forL I hw hs he ds ρ2 m2 q
    | bk ρ2 => exact W.some q
    | rt v => exact W.some q
theorem w_forLs {c : CE} {g : D → En → Option En} {body : CS} (h : W (c ρ m) fun d m1 => ∃ n ds, d = .ref n ∧ m1[n]? = some (.lst ds) ∧ W (forL (some n) m1 g body ds ρ m1) R) : W (cFor (iLstD c) g body ρ m) R := by
  obtain ⟨d, m1, e, n, ds, rfl, hn, h⟩ := h
  unfold cFor
  exact W.bindO (show iLstD c ρ m = some (ds, some n, m1) by unfold iLstD; rw [e]; simp only [hn]) h
theorem w_forT {c : CE} {g : D → En → Option En} {body : CS} (h : W (c ρ m) fun d m1 => ∃ ds, d = .tup ds ∧ W (forL none m1 g body ds ρ m1) R) : W (cFor (iTupD c) g body ρ m) R := by
  obtain ⟨d, m1, e, ds, rfl, h⟩ := h
  unfold cFor
  exact W.bindO (by unfold iTupD; rw [e]) h
/-- a comprehension by what holds between the turns: I of what is left and what is made -/
theorem w_lcL {w : Option Nat} {m0 : M} {g : D → En → Option En} {tt : CT} {ce : CE} {ρ : En} (I : List D → List D → M → Prop) (hw : ∀ ds out m, I ds out m → Wt w m0 m)
    (hs : ∀ d ds out m, I (d :: ds) out m → ∃ ρ1, g d ρ = some ρ1 ∧ W (tt ρ1 m) fun t m1 => (t = true → W (ce ρ1 m1) fun y m2 => I ds (out ++ [y]) m2) ∧ (t = false → I ds out m1)) :
    ∀ (ds out : List D) (m : M) (P : List D → M → Prop), I ds out m → (∀ rest m', I [] (out ++ rest) m' → P rest m') → W (lcL w m0 g tt ce ρ ds m) P
  | [], out, m, P, h, he => by
    unfold lcL
    rw [if_pos (hw _ _ _ h)]
    exact W.some (he [] m (by rw [List.append_nil]; exact h))
  | d :: ds, out, m, P, h, he => by
    unfold lcL
    rw [if_pos (hw _ _ _ h)]
    obtain ⟨ρ1, e, hq⟩ := hs d ds out m h
    refine W.bindO e (W.bind (hq.mono fun b m1 hq => ?_))
    cases b with
    | true =>
      rw [if_pos rfl]
      refine W.bind ((hq.1 rfl).mono fun y m2 hq => W.bind ?_)
      exact w_lcL I hw hs ds (out ++ [y]) m2 _ hq fun rest m' hr => W.some (he (y :: rest) m' (by rw [List.append_cons]; exact hr))
    | false =>
      rw [if_neg Bool.false_ne_true]
      exact w_lcL I hw hs ds out m1 P (hq.2 rfl) he
theorem w_lcR {cs : CA} {g : D → En → Option En} {tt : CT} {ce : CE} {vs : List Nat} (h : W (cs ρ m) fun ds m1 => ∃ j : Int, ds = [.int j] ∧ (-(2 ^ 62) ≤ j ∧ j < 2 ^ 62) ∧ j.toNat ≤ sizeLine ∧ W (lcL none m1 g tt ce (wipeE ρ vs) ((List.range j.toNat).map fun (i : Nat) => D.int (i : Int)) m1) fun out m2 => P (.ref m2.length) (m2 ++ [.lst out])) : W (cLc (iRngD cs) g tt ce vs ρ m) P := by
  obtain ⟨ds, m1, e, j, rfl, hj, hx, h⟩ := h
  unfold cLc
  refine W.bindO (show iRngD cs ρ m = some ((List.range j.toNat).map (fun (i : Nat) => D.int (i : Int)), none, m1) by unfold iRngD; rw [e]; simp only [if_pos hj]) ?_
  show W (if ((List.range j.toNat).map fun (i : Nat) => D.int (i : Int)).length ≤ sizeLine then _ else _) P
  rw [if_pos (by simpa using hx)]
  exact W.bind (h.mono fun _ _ h => W.some h)
end
end L3

set_option Elab.async false
set_option linter.all false
set_option maxRecDepth 100000
set_option maxHeartbeats 40000000
set_option exponentiation.threshold 3000
namespace L3
open PySem L2
/-! ### plain data of a bounded make -/
mutual
def gd (B : Nat) : PyData → Bool
  | .none => true
  | .bool _ => true
  | .int i => decide (i.natAbs < B)
  | .str x => decide (x.length ≤ 300) && PyData.strOk x
  | .list xs => gdAll B xs
  | .tuple xs => gdAll B xs
  | .dict _ => false
def gdAll (B : Nat) : List PyData → Bool
  | [] => true
  | x :: xs => gd B x && gdAll B xs
end
mutual
def lw : PyData → Nat
  | .none => 4
  | .bool _ => 5
  | .int _ => 251
  | .str x => 10 * x.length + 2
  | .list xs => lwAll xs + 3
  | .tuple xs => lwAll xs + 3
  | .dict _ => 0
def lwAll : List PyData → Nat
  | [] => 0
  | x :: xs => lw x + 2 + lwAll xs
end
theorem log_of {n : Nat} (h : n < 10 ^ 250) : n.log2 < 1920 := by
  by_cases h0 : n = 0
  · subst h0; decide
  · exact (Nat.log2_lt h0).mpr (Nat.lt_trans h (by decide))
theorem strOk_mem {x : Str} (h : PyData.strOk x = true) : ∀ c ∈ x.cps.toList, c < 1114112 := fun c hc => by
  unfold PyData.strOk at h
  rw [Array.all_eq_true'] at h
  have := h c (by simpa using hc)
  simpa using this
theorem listText_le (ts : List Str) : (listText ts).length ≤ piled ts + 2 := by
  cases ts with
  | nil => decide
  | cons t r =>
    have h := textFrom_length_pos r 1 (("[" : Str) ++ (if (0 : Nat) > 0 then ", " else "" : String) ++ t) (Nat.succ_pos 0)
    have e : ((("[" : Str) ++ (if (0 : Nat) > 0 then ", " else "" : String) ++ t)).length = 1 + t.length := by
      rw [strLen_append, strLen_append]; rfl
    have hX : (listText (t :: r)).length = (textFrom 0 "[" (t :: r)).length + 1 := by
      show (textFrom 0 "[" (t :: r) ++ "]").length = _
      rw [strLen_append]; rfl
    have hY : (textFrom 0 "[" (t :: r)).length = (textFrom 1 (("[" : Str) ++ (if (0 : Nat) > 0 then ", " else "" : String) ++ t) r).length := rfl
    rw [hX, hY, h, e, piled_cons]; omega
theorem tupleText_le (ts : List Str) : (tupleText ts).length ≤ piled ts + 3 := by
  unfold tupleText
  rw [strLen_append, strLen_append]
  have e1 : ((("(" : String) : Str)).length = 1 := rfl
  have e3 : (((if ts.length == 1 then ",)" else ")" : String) : Str)).length ≤ 2 := by split <;> decide
  rw [e1]
  by_cases h : ts = []
  · subst h; decide
  · have := join_length_add ts h
    omega
mutual
theorem gd_shown {B : Nat} (hB : B ≤ 10 ^ 250) : ∀ p : PyData, gd B p = true → p.shown.length ≤ lw p
  | .none, _ => by decide
  | .bool b, _ => by cases b <;> decide
  | .int i, h => by
    unfold gd at h
    have := int_text_length_le10 (a := i) (k := 250) (by decide) (Nat.lt_of_lt_of_le (by simpa using h) hB)
    show (Str.ofString (toString i)).length ≤ 251
    rw [ofString_length]; exact this
  | .str x, h => by
    unfold gd at h
    rw [Bool.and_eq_true] at h
    exact StrLaws.reprText_len x fun c hc => Nat.lt_trans (strOk_mem h.2 c hc) (by decide)
  | .list xs, h => by
    have := gdAll_shown hB xs h
    have h2 := listText_le (PyData.shownAll xs)
    show (listText (PyData.shownAll xs)).length ≤ lwAll xs + 3
    omega
  | .tuple xs, h => by
    have := gdAll_shown hB xs h
    have h2 := tupleText_le (PyData.shownAll xs)
    show (tupleText (PyData.shownAll xs)).length ≤ lwAll xs + 3
    omega
  | .dict _, h => by cases h
theorem gdAll_shown {B : Nat} (hB : B ≤ 10 ^ 250) : ∀ ps : List PyData, gdAll B ps = true → piled (PyData.shownAll ps) ≤ lwAll ps
  | [], _ => by decide
  | p :: ps, h => by
    unfold gdAll at h
    rw [Bool.and_eq_true] at h
    have h1 := gd_shown hB p h.1
    have h2 := gdAll_shown hB ps h.2
    show piled (p.shown :: PyData.shownAll ps) ≤ lw p + 2 + lwAll ps
    rw [piled_cons]; omega
end
mutual
theorem gd_more {B : Nat} (hB : B ≤ 10 ^ 250) : ∀ p : PyData, gd B p = true → p.showable = true ∧ p.hasDict = false ∧ p.canLay0 = true
  | .none, _ => ⟨rfl, rfl, rfl⟩
  | .bool b, _ => ⟨rfl, rfl, rfl⟩
  | .int i, h => by
    unfold gd at h
    exact ⟨decide_eq_true (log_of (Nat.lt_of_lt_of_le (by simpa using h) hB)), rfl, rfl⟩
  | .str x, h => by
    unfold gd at h
    rw [Bool.and_eq_true] at h
    exact ⟨rfl, rfl, h.2⟩
  | .list xs, h => gdAll_more hB xs h
  | .tuple xs, h => gdAll_more hB xs h
  | .dict _, h => by cases h
theorem gdAll_more {B : Nat} (hB : B ≤ 10 ^ 250) : ∀ ps : List PyData, gdAll B ps = true → PyData.showableAll ps = true ∧ PyData.hasDictAll ps = false ∧ PyData.canLayAll0 ps = true
  | [], _ => ⟨rfl, rfl, rfl⟩
  | p :: ps, h => by
    unfold gdAll at h
    rw [Bool.and_eq_true] at h
    obtain ⟨a1, a2, a3⟩ := gd_more hB p h.1
    obtain ⟨b1, b2, b3⟩ := gdAll_more hB ps h.2
    refine ⟨?_, ?_, ?_⟩
    · unfold PyData.showableAll; rw [a1, b1]; rfl
    · unfold PyData.hasDictAll; rw [a2, b2]; rfl
    · unfold PyData.canLayAll0; rw [a3, b3]; rfl
end
theorem gd_shaped {B : Nat} (hB : B ≤ 10 ^ 250) {p : PyData} (h : gd B p = true) (hd : p.depth ≤ 64) : SeqAt.shaped p = true := by
  unfold SeqAt.shaped
  rw [(gd_more hB p h).2.2, decide_eq_true hd]; rfl
/-! ### what a value reads as, without the objects in S -/
mutual
inductive Rp (S : List Nat) (m : M) : D → PyData → Prop where
  | non : Rp S m .non .none
  | bl (b : Bool) : Rp S m (.bl b) (.bool b)
  | int (i : Int) : Rp S m (.int i) (.int i)
  | str (x : Str) : Rp S m (.str x) (.str x)
  | tup {ds : List D} {ps : List PyData} : Rps S m ds ps → Rp S m (.tup ds) (.tuple ps)
  | lst {i : Nat} {ds : List D} {ps : List PyData} : i ∉ S → m[i]? = some (.lst ds) → Rps S m ds ps → Rp S m (.ref i) (.list ps)
inductive Rps (S : List Nat) (m : M) : List D → List PyData → Prop where
  | nil : Rps S m [] []
  | cons {d : D} {p : PyData} {ds : List D} {ps : List PyData} : Rp S m d p → Rps S m ds ps → Rps S m (d :: ds) (p :: ps)
end
/-- outside of S all stands as it stood -/
structure Kp (S : List Nat) (m m' : M) : Prop where
  len : m.length ≤ m'.length
  keep : ∀ i, i < m.length → i ∉ S → m'[i]? = m[i]?
theorem Kp.refl {S : List Nat} {m : M} : Kp S m m := ⟨Nat.le_refl _, fun _ _ _ => rfl⟩
theorem Kp.trans {S : List Nat} {m1 m2 m3 : M} (a : Kp S m1 m2) (b : Kp S m2 m3) : Kp S m1 m3 := ⟨Nat.le_trans a.len b.len, fun i h n => (b.keep i (Nat.lt_of_lt_of_le h a.len) n).trans (a.keep i h n)⟩
theorem Kp.push {S : List Nat} {m : M} (o : MO) : Kp S m (m ++ [o]) := ⟨by simp, fun i h _ => List.getElem?_append_left h⟩
theorem Kp.set {S : List Nat} {m : M} {i : Nat} (o : MO) (h : i ∈ S) : Kp S m (m.set i o) := ⟨by simp, fun j _ n => List.getElem?_set_ne (fun z : i = j => n (z ▸ h))⟩
theorem Kp.at {S : List Nat} {m m' : M} (k : Kp S m m') {i : Nat} {o : MO} (h : m[i]? = some o) (n : i ∉ S) : m'[i]? = some o := (k.keep i (List.getElem?_eq_some_iff.mp h).1 n).trans h
mutual
theorem Rp.py {S : List Nat} {m : M} : ∀ {d : D} {p : PyData} (n : Nat), Rp S m d p → p.depth < n → py n m d = some p
  | _, _, 0, _, h => absurd h (Nat.not_lt_zero _)
  | _, _, n + 1, .non, _ => rfl
  | _, _, n + 1, .bl b, _ => rfl
  | _, _, n + 1, .int b, _ => rfl
  | _, _, n + 1, .str b, _ => rfl
  | _, _, n + 1, @Rp.tup _ _ ds ps h, hd => by
    have := Rps.pys n h (by unfold PyData.depth at hd; omega)
    show (L3.pys (L3.py n m) ds).map PyData.tuple = _
    rw [this]; rfl
  | _, _, n + 1, @Rp.lst _ _ i ds ps _ hi h, hd => by
    have := Rps.pys n h (by unfold PyData.depth at hd; omega)
    show (match m[i]? with | some (.lst ds) => (L3.pys (L3.py n m) ds).map PyData.list | _ => none) = _
    rw [hi]
    show (L3.pys (L3.py n m) ds).map PyData.list = _
    rw [this]; rfl
theorem Rps.pys {S : List Nat} {m : M} : ∀ {ds : List D} {ps : List PyData} (n : Nat), Rps S m ds ps → PyData.depthAll ps < n → L3.pys (L3.py n m) ds = some ps
  | _, _, n, .nil, _ => rfl
  | _, _, n, @Rps.cons _ _ d p ds ps h t, hd => by
    unfold PyData.depthAll at hd
    have h1 := Rp.py n h (by omega)
    have h2 := Rps.pys n t (by omega)
    show ((L3.py n m d).bind fun p => (L3.pys (L3.py n m) ds).bind fun ps => some (p :: ps)) = _
    rw [h1, h2]; rfl
end
/-! ### sums over lists of data -/
/-- good, at most so deep and so long -/
structure Gb (B : Nat) (p : PyData) (d l : Nat) : Prop where
  g : gd B p = true
  d : p.depth ≤ d
  l : lw p ≤ l
structure Gbs (B : Nat) (ps : List PyData) (d l : Nat) : Prop where
  g : gdAll B ps = true
  d : PyData.depthAll ps ≤ d
  l : lwAll ps ≤ l
mutual
theorem gd_up {B B' : Nat} (h : B ≤ B') : ∀ p : PyData, gd B p = true → gd B' p = true
  | .none, _ => rfl
  | .bool _, _ => rfl
  | .int i, q => by
    unfold gd at q ⊢
    exact decide_eq_true (Nat.lt_of_lt_of_le (of_decide_eq_true q) h)
  | .str _, q => q
  | .list xs, q => gdAll_up h xs q
  | .tuple xs, q => gdAll_up h xs q
  | .dict _, q => q
theorem gdAll_up {B B' : Nat} (h : B ≤ B') : ∀ ps : List PyData, gdAll B ps = true → gdAll B' ps = true
  | [], _ => rfl
  | p :: ps, q => by
    unfold gdAll at q ⊢
    rw [Bool.and_eq_true] at q ⊢
    exact ⟨gd_up h p q.1, gdAll_up h ps q.2⟩
end
theorem Gb.up {B B' : Nat} {p : PyData} {d l : Nat} (h : Gb B p d l) (hB : B ≤ B') : Gb B' p d l := ⟨gd_up hB p h.g, h.d, h.l⟩
theorem Gb.mono {B : Nat} {p : PyData} {d l d' l' : Nat} (h : Gb B p d l) (hd : d ≤ d') (hl : l ≤ l') : Gb B p d' l' := ⟨h.g, Nat.le_trans h.d hd, Nat.le_trans h.l hl⟩
theorem Gbs.mono {B : Nat} {p : List PyData} {d l d' l' : Nat} (h : Gbs B p d l) (hd : d ≤ d') (hl : l ≤ l') : Gbs B p d' l' := ⟨h.g, Nat.le_trans h.d hd, Nat.le_trans h.l hl⟩
theorem Gbs.cons {B : Nat} {p : PyData} {ps : List PyData} {d l d' l' : Nat} (h : Gb B p d l) (h' : Gbs B ps d' l') : Gbs B (p :: ps) (max d d') (l + 2 + l') := ⟨by unfold gdAll; rw [h.g, h'.g]; rfl, by unfold PyData.depthAll; have := h.d; have := h'.d; omega, by unfold lwAll; have := h.l; have := h'.l; omega⟩
theorem Gbs.nil {B : Nat} : Gbs B [] 0 0 := ⟨rfl, Nat.le_refl _, Nat.le_refl _⟩
theorem Gbs.one {B : Nat} {p : PyData} {d l : Nat} (h : Gb B p d l) : Gbs B [p] d (l + 2) := (Gbs.cons h Gbs.nil).mono (by omega) (by omega)
theorem Gb.tup {B : Nat} {ps : List PyData} {d l : Nat} (h : Gbs B ps d l) : Gb B (.tuple ps) (d + 1) (l + 3) := ⟨h.g, by unfold PyData.depth; have := h.d; omega, by unfold lw; have := h.l; omega⟩
/-- repr of good data -/
theorem w_repr {B : Nat} (hB : B ≤ 10 ^ 250) {S : List Nat} {m : M} {d : D} {p : PyData} {P : D → M → Prop} {k l : Nat} (r : Rp S m d p) (g : Gb B p k l) (hk : k < 50) (hl : l ≤ sizeLine) (hd : (∃ ds, d = .tup ds) ∨ ∃ i, d = .ref i) (h : P (.str p.shown) m) : W (f1 reprD [d] m) P := by
  refine ⟨_, _, ?_, h⟩
  have e := r.py PYN (Nat.lt_of_le_of_lt g.d hk)
  have c : (p.showable && !p.hasDict && decide (p.depth ≤ 60) && decide (p.shown.length ≤ sizeLine)) = true := by
    obtain ⟨a1, a2, _⟩ := gd_more hB p g.g
    have h1 := g.d
    have h2 := g.l
    have h3 := gd_shown hB p g.g
    rw [a1, a2, decide_eq_true (show p.depth ≤ 60 by omega), decide_eq_true (show p.shown.length ≤ sizeLine by omega)]; rfl
  show reprD d m = _
  rcases hd with ⟨ds, rfl⟩ | ⟨i, rfl⟩
  · show (match py PYN m (.tup ds) with | some p => _ | none => none) = _
    rw [e]
    show (if (p.showable && !p.hasDict && decide (p.depth ≤ 60) && decide (p.shown.length ≤ sizeLine)) = true then some (D.str p.shown, m) else none) = _
    rw [if_pos c]
  · show (match py PYN m (.ref i) with | some p => _ | none => none) = _
    rw [e]
    show (if (p.showable && !p.hasDict && decide (p.depth ≤ 60) && decide (p.shown.length ≤ sizeLine)) = true then some (D.str p.shown, m) else none) = _
    rw [if_pos c]
end L3

set_option Elab.async false
set_option linter.all false
set_option maxRecDepth 100000
namespace L3
open PySem PySem.Spec PyProof.Rows L2
section
variable {X : Cx}
/-! ### calls with keywords -/
structure LK (X : Cx) (kws : List Keyword) (c : CA) : Prop where
  ex : ∃ t, PK X kws t ∧ ∀ (ρ : En) (m : M) (ds : List D) (m' : M) (ι : List Addr) (σ : L2.St) (H : Hp) (Q : List V → Hp → Prop), c ρ m = some (ds, m') → RM X.K ι m H → RS X.K ι H σ ρ → Kos X.K ι H ds m' Q → t σ H Q
theorem lk_nil : LK X [] cNil := ⟨_, pk_nil, fun ρ m ds m' ι σ H Q e r s k => by cases e; exact k ι H _ .refl r .nil⟩
theorem lk_cons {e : Expr} {kws : List Keyword} {nm : Option Str} {kpos : Pos} {c : CE} {cs : CA} (h : LE X e c) (hs : LK X kws cs) : LK X (⟨nm, e, kpos⟩ :: kws) (cCons c cs) := by
  obtain ⟨t, pt, ht⟩ := h.ex
  obtain ⟨u, pu, hu⟩ := hs.ex
  refine ⟨_, pk_cons pt pu, fun ρ m ds m' ι σ H Q e r s k => ?_⟩
  unfold cCons at e
  obtain ⟨⟨d, m1⟩, e1, e⟩ := Option.bind_eq_some_iff.mp e
  obtain ⟨⟨es, m2⟩, e2, e⟩ := Option.bind_eq_some_iff.mp e
  cases e
  refine ht ρ m d m1 ι σ H _ e1 r s fun ι1 H1 v g1 r1 h1 => ?_
  refine hu ρ m1 es m2 ι1 σ H1 _ e2 r1 (s.gr r g1) fun ι2 H2 vs g2 r2 h2 => ?_
  exact k ι2 H2 _ (g1.trans g2) r2 (.cons (h1.gr r1 g2) h2)
/-- how values go to the parameters: the same for values, abstract values and data -/
structure Perm3 (n : Nat) (gD : List D → List D → List D) (gV : List V → List V → List V) : Prop where
  rel : ∀ {K : PySem.W.Frag} {ι : List Addr} {H : Hp} {ds es : List D} {vs ws : List V}, RVs K ι H ds vs → RVs K ι H es ws → RVs K ι H (gD ds es) (gV vs ws)
def cCallK (n : Nat) (F : FD) (gD : List D → List D → List D) (cs ck : CA) : CE := fun ρ m => (cs ρ m).bind fun p => (ck ρ p.2).bind fun q => if (gD p.1 q.1).length = n then F (gD p.1 q.1) q.2 else none
theorem le_callK {n k : Nat} {F : FD} {CX : CXT} {f : Addr} {fd : FuncData} {ps ks : List Str} {x : Str} {e : Expr} {es : List Expr} {kws : List Keyword} {cs ck : CA} {E : XK} {p pos : Pos} {g : List Value → List Value → List Value} {gV : List V → List V → List V} {gD : List D → List D → List D}
    (G : FnOk X.prog X.w X.K X.mg X.base CX k f fd ps (spF X.K n F)) (hr : Room k X.A) (hg : Gl X x) (hm : X.mg x = some (.ref f)) (hk : PySem.W.keepIn X.K (.ref f) = true)
    (hb : KBinds X.K fd ps ks g gV) (hp : Perm3 n gD gV) (hx : Passes CX X E) (ha : LA X (e :: es) cs) (hkw : LK X kws ck) (hall : (backToKw pos (keywordEach kws X.env)).all (·.1.isSome) = true := by rfl) (hks : (backToKw pos (keywordEach kws X.env)).filterMap (·.1) = ks := by rfl)
    (hdb : (x == ("__debug__" : Str)) = false := by decide) (he : starEach (e :: es) X.env = (false, eval e X.env) :: starEach es X.env := by rfl)
    (hpl : ((backTo pos (starEach (e :: es) X.env)).any (·.1) || (backToKw pos (keywordEach kws X.env)).any (·.1.isNone)) = false := by rfl) : LE X (.Call (.Name x p) (e :: es) kws pos) (cCallK n F gD cs ck) := by
  obtain ⟨t, pt, ht⟩ := ha.ex
  obtain ⟨u, pu, hu⟩ := hkw.ex
  refine ⟨_, pe_callK (E := E) G hr hg hm hk hb hx pt pu hall hks hdb he hpl, fun ρ m d m' ι σ H Q e r s k => ?_⟩
  unfold cCallK at e
  obtain ⟨⟨ds, m1⟩, e1, e⟩ := Option.bind_eq_some_iff.mp e
  obtain ⟨⟨es, m2⟩, e2, e⟩ := Option.bind_eq_some_iff.mp e
  split at e
  · rename_i hl
    refine ht ρ m ds m1 ι σ H _ e1 r s fun ι1 H1 vs g1 r1 h1 => ?_
    refine hu ρ m1 es m2 ι1 σ H1 _ e2 r1 (s.gr r g1) fun ι2 H2 ws g2 r2 h2 => ?_
    exact ⟨ι2, gD ds es, m2, d, m', e, hl, r2, hp.rel (h1.gr r1 g2) h2, fun ι' H' v g r h => k ι' H' v ((g1.trans g2).trans g) r h⟩
  · cases e
/-- f(k = v, ..) -/
def tCallK0 (sp : Sp) (gV : List V → List V → List V) (E : XK) (tk : TA) : TE := fun σ H Q => tk σ H fun zs H2 => sp (gV [] zs) H2 Q E
theorem pe_callK0 {CX : CXT} {k : Nat} {f : Addr} {fd : FuncData} {ps ks : List Str} {sp : Sp} {E : XK} {x : Str} {p pos : Pos} {kws : List Keyword} {tk : TA} {g : List Value → List Value → List Value} {gV : List V → List V → List V}
    (F : FnOk X.prog X.w X.K X.mg X.base CX k f fd ps sp) (hr : Room k X.A) (hg : Gl X x) (hm : X.mg x = some (.ref f)) (hk : PySem.W.keepIn X.K (.ref f) = true) (hb : KBinds X.K fd ps ks g gV) (hx : Passes CX X E)
    (hkw : PK X kws tk) (hall : (backToKw pos (keywordEach kws X.env)).all (·.1.isSome) = true := by rfl) (hks : (backToKw pos (keywordEach kws X.env)).filterMap (·.1) = ks := by rfl)
    (hdb : (x == ("__debug__" : Str)) = false := by decide)
    (hpl : ((backTo pos (starEach [] X.env)).any (·.1) || (backToKw pos (keywordEach kws X.env)).any (·.1.isNone)) = false := by rfl) :
    PE X (.Call (.Name x p) [] kws pos) (tCallK0 sp gV E tk) := by
  intro pins s σ H Q I h
  refine wpAny_Call_Name_kw (ld_glob I hg hm ?_ hdb)
  refine PySem.W.callWith_KW0 (h₀ := X.base) I.ok.mod.kin hk hall (thn (hkw pos pins s σ H _ I h) fun ws s2 ⟨zs, H2, I2, rz, q2⟩ => ⟨I2.kIn, ?_⟩) hpl
  rw [hks]
  exact run_fnk F hr hb hx I2 .nil rz q2
def cCallK0 (n : Nat) (F : FD) (gD : List D → List D → List D) (ck : CA) : CE := fun ρ m => (ck ρ m).bind fun q => if (gD [] q.1).length = n then F (gD [] q.1) q.2 else none
theorem le_callK0 {n k : Nat} {F : FD} {CX : CXT} {f : Addr} {fd : FuncData} {ps ks : List Str} {x : Str} {kws : List Keyword} {ck : CA} {E : XK} {p pos : Pos} {g : List Value → List Value → List Value} {gV : List V → List V → List V} {gD : List D → List D → List D}
    (G : FnOk X.prog X.w X.K X.mg X.base CX k f fd ps (spF X.K n F)) (hr : Room k X.A) (hg : Gl X x) (hm : X.mg x = some (.ref f)) (hk : PySem.W.keepIn X.K (.ref f) = true)
    (hb : KBinds X.K fd ps ks g gV) (hp : Perm3 n gD gV) (hx : Passes CX X E) (hkw : LK X kws ck) (hall : (backToKw pos (keywordEach kws X.env)).all (·.1.isSome) = true := by rfl) (hks : (backToKw pos (keywordEach kws X.env)).filterMap (·.1) = ks := by rfl)
    (hdb : (x == ("__debug__" : Str)) = false := by decide)
    (hpl : ((backTo pos (starEach [] X.env)).any (·.1) || (backToKw pos (keywordEach kws X.env)).any (·.1.isNone)) = false := by rfl) : LE X (.Call (.Name x p) [] kws pos) (cCallK0 n F gD ck) := by
  obtain ⟨u, pu, hu⟩ := hkw.ex
  refine ⟨_, pe_callK0 (E := E) G hr hg hm hk hb hx pu hall hks hdb hpl, fun ρ m d m' ι σ H Q e r s k => ?_⟩
  unfold cCallK0 at e
  obtain ⟨⟨es, m2⟩, e2, e⟩ := Option.bind_eq_some_iff.mp e
  split at e
  · rename_i hl
    refine hu ρ m es m2 ι σ H _ e2 r s fun ι2 H2 ws g2 r2 h2 => ?_
    exact ⟨ι2, gD [] es, m2, d, m', e, hl, r2, hp.rel .nil h2, fun ι' H' v g r h => k ι' H' v (g2.trans g) r h⟩
  · cases e
/-! ### a, b = x, y -/
def cPar (i j : Nat) (cs : CA) : CS := fun ρ m => (cs ρ m).bind fun p => match p.1 with
  | [a, b] => some (.nx ((ρ.set i (some a)).set j (some b)), p.2)
  | _ => none
theorem ls_par {i j : Nat} {x y : Str} {a b : Expr} {cs : CA} {px py pt pos : Pos} {kt k2 pt2} (hc : X.calm = true) (hN : X.N.Nodup) (hij : i ≠ j) (ha : LA X [a, b] cs) (hi : X.N[i]? = some x := by rfl) (hj : X.N[j]? = some y := by rfl)
    (hx : X.env.scope.names.lookup x = some .local := by rfl) (hy : X.env.scope.names.lookup y = some .local := by rfl)
    (hw : swappedStores [.Tuple [.Name x px, .Name y py] kt pt] (.Tuple [a, b] k2 pt2) X.env = pure (some [x, y]) := by rfl)
    (hs : swapsWithSole [.Tuple [.Name x px, .Name y py] kt pt] (.Tuple [a, b] k2 pt2) pos.line X.env = pure false := by rfl) :
    LS X (.Assign [.Tuple [.Name x px, .Name y py] kt pt] (.Tuple [a, b] k2 pt2) pos) (cPar i j cs) := by
  obtain ⟨t, pt, ht⟩ := ha.ex
  refine ⟨_, ps_par hc hN hi hj hij hx hy pt hw hs, fun ρ m f m' ι σ H D e r s k => ?_⟩
  unfold cPar at e
  obtain ⟨⟨ds, m1⟩, e1, e⟩ := Option.bind_eq_some_iff.mp e
  split at e
  · rename_i a b ed
    simp only at ed
    subst ed
    cases e
    refine ht ρ m _ m1 ι σ H _ e1 r s fun ι1 H1 vs g1 r1 h1 => ?_
    cases h1 with
    | cons ha hb =>
      cases hb with
      | cons hb hc =>
        cases hc
        exact ⟨_, _, rfl, k ι1 H1 g1 r1 _ (((s.gr r g1).set i ha).set j hb)⟩
  · cases e
/-! ### in, not in a list or tuple of flat things -/
def flatD : D → Bool
  | .non | .bl _ | .int _ | .str _ => true
  | _ => false
def eqF : D → D → Bool
  | .non, .non => true
  | .bl a, .bl b => a == b
  | .bl a, .int b => (if a then 1 else 0) == b
  | .int a, .bl b => a == (if b then 1 else 0)
  | .int a, .int b => a == b
  | .str a, .str b => a == b
  | _, _ => false
theorem flat_of {K : PySem.W.Frag} {ι : List Addr} {H : Hp} {d : D} {v : V} (h : RV K ι H d v) (e : flatD d = true) : flatV v = true := by
  cases h <;> first | rfl | cases e
theorem flats_of {K : PySem.W.Frag} {ι : List Addr} {H : Hp} : ∀ {ds : List D} {vs : List V}, RVs K ι H ds vs → ds.all flatD = true → vs.all flatV = true
  | [], _, h, _ => by cases h; rfl
  | d :: ds, _, h, e => by
    cases h with
    | cons a t =>
      rw [List.all_cons, Bool.and_eq_true] at e ⊢
      exact ⟨flat_of a e.1, flats_of t e.2⟩
theorem eqF_of {K : PySem.W.Frag} {ι : List Addr} {H : Hp} {d e : D} {v w : V} (h : RV K ι H d v) (g : RV K ι H e w) (hd : flatD d = true) (he : flatD e = true) : eqV v w = eqF d e := by
  cases h <;> cases g <;> first | rfl | exact absurd hd Bool.false_ne_true | exact absurd he Bool.false_ne_true
theorem inF_of {K : PySem.W.Frag} {ι : List Addr} {H : Hp} {e : D} {w : V} (g : RV K ι H e w) (he : flatD e = true) : ∀ {ds : List D} {vs : List V}, RVs K ι H ds vs → ds.all flatD = true → inV w vs = ds.any fun y => eqF y e
  | [], _, h, _ => by cases h; rfl
  | d :: ds, _, h, q => by
    cases h with
    | cons a t =>
      rw [List.all_cons, Bool.and_eq_true] at q
      have ih := inF_of g he t q.2
      unfold inV at ih ⊢
      rw [List.any_cons, List.any_cons, ih, eqF_of a g q.1 he]
def fInL : F2 := fun x y m => (itemsD y m).bind fun ds => if (flatD x && ds.all flatD) = true then some (.bl (ds.any fun y => eqF y x), m) else none
def fNinL : F2 := fun x y m => (itemsD y m).bind fun ds => if (flatD x && ds.all flatD) = true then some (.bl (!ds.any fun y => eqF y x), m) else none
theorem lop_ninL : LOp X (compareOp .NotIn) fNinL := ⟨_, op_notIn_seq, fun x y m d m' ι H v w Q e rm rx ry k => by
  unfold fNinL at e
  obtain ⟨ds, e1, e⟩ := Option.bind_eq_some_iff.mp e
  split at e
  · rename_i hf
    rw [Bool.and_eq_true] at hf
    cases e
    obtain ⟨a, vs, rfl, h, t⟩ := items_of rm ry e1
    refine ⟨a, vs, rfl, h, flat_of rx hf.1, flats_of t hf.2, ?_⟩
    rw [if_pos rfl, inF_of rx hf.1 t hf.2]
    exact k ι H _ .refl rm (.bl _)
  · cases e⟩
def fNinS : F2 := fun x y m => match x, y with
  | .str c, .str z => if h : c.cps.size = 1 then some (.bl (!decide (c.cps[0] ∈ z.cps.toList)), m) else none
  | _, _ => none
theorem lop_ninS : LOp X (compareOp .NotIn) fNinS := ⟨_, op_notIn_sign, fun x y m d m' ι H v w Q e rm rx ry k => by
  unfold fNinS at e
  split at e
  · split at e
    · rename_i c z h
      cases e; cases rx; cases ry
      obtain ⟨⟨l⟩⟩ := c
      match l, h with
      | [a], _ => exact ⟨a, z, rfl, rfl, k ι H _ .refl rm (.bl _)⟩
    · cases e
  · cases e⟩
def fIn : F2 := fOr fInS fInL
def fNin : F2 := fOr fNinS fNinL
theorem lop_nin : LOp X (compareOp .NotIn) fNin := lop_ninS.or lop_ninL
/-! ### is None -/
def isNon : D → Bool
  | .non => true
  | _ => false
def fIsN : F2 := fun x y m => match y with
  | .non => some (.bl (isNon x), m)
  | _ => none
def fIsNN : F2 := fun x y m => match y with
  | .non => some (.bl (!isNon x), m)
  | _ => none
theorem isNon_of {K : PySem.W.Frag} {ι : List Addr} {H : Hp} {d : D} {v : V} (h : RV K ι H d v) : decide (v = .non) = isNon d := by
  cases h <;> first | rfl | exact decide_eq_false (fun z => nomatch z)
theorem lop_is : LOp X (compareOp .Is) fIsN := ⟨_, op_isN, fun x y m d m' ι H v w Q e rm rx ry k => by
  unfold fIsN at e
  split at e
  · cases e; cases ry
    exact ⟨rfl, by rw [isNon_of rx]; exact k ι H _ .refl rm (.bl _)⟩
  · cases e⟩
/-! ### more built-ins -/
def intD (x : D) (m : M) : Option (D × M) := match x with
  | .int i => some (.int i, m)
  | .bl b => some (.int (if b then 1 else 0), m)
  | _ => none
theorem lc_int : LC X (.type "int") (f1 intD) := lc_one call_int1 fun x m d m' ι H v Q e rm rx k => by
  unfold intD at e
  split at e
  · cases e; cases rx; exact .inl ⟨_, rfl, k ι H _ .refl rm (.int _)⟩
  · cases e; cases rx; exact .inr ⟨_, rfl, k ι H _ .refl rm (.int _)⟩
  · cases e
def intsD : List D → Option (List Int)
  | [] => some []
  | .int b :: ds => (intsD ds).map (b :: ·)
  | _ :: _ => none
theorem ints_of : ∀ {ds : List D} {bs : List Int}, intsD ds = some bs → ds = bs.map D.int
  | [], _, e => by cases e; rfl
  | .int b :: ds, bs, e => by
    unfold intsD at e
    obtain ⟨cs, e1, e⟩ := Option.map_eq_some_iff.mp e
    cases e
    rw [List.map_cons, ints_of e1]
  | .non :: _, _, e => by cases e
  | .str _ :: _, _, e => by cases e
  | .bl _ :: _, _, e => by cases e
  | .tup _ :: _, _, e => by cases e
  | .fls _ :: _, _, e => by cases e
  | .ref _ :: _, _, e => by cases e
def sumD (x : D) (m : M) : Option (D × M) := (lstD x m).bind fun ds => (intsD ds).bind fun ns => some (.int ns.sum, m)
/-- xs * k of a list -/
def fRep : F2 := fun x y m => match y with
  | .int k => (lstD x m).bind fun ds => if -(2 ^ 63) ≤ k ∧ k < 2 ^ 63 ∧ ds.length * k.toNat ≤ sizeLine then some (.ref m.length, m ++ [.lst (List.replicate k.toNat ds).flatten]) else none
  | _ => none
/-! ### d.get(k, x) -/
def cGet2 (o k x : CE) : CE := fun ρ m => (o ρ m).bind fun p => match dicD p.1 p.2 with
  | some _ => (k ρ p.2).bind fun q => (x ρ q.2).bind fun r => (dicD p.1 r.2).bind fun dk => (keyD q.1).bind fun ky => some ((valD dk.2 ky).getD r.1, r.2)
  | none => none
end
end L3

set_option Elab.async false
set_option linter.all false
set_option maxRecDepth 100000
namespace L2
open PySem PySem.Spec PyProof.Rows
section
variable {X : Cx}
/-- {kx: vx for target in iter if ..}: D the new dict -/
def tDc (wi : TI) (g : TG) (tt : TT) (tk tv : TE) (vs : List Nat) : TE := fun σ H Q => wi σ H fun J H1 => ∀ D, H1 D = none → ∃ W : Nat → Nat → Hp → Prop, (∃ m, W 0 m (upd H1 D (.dK []))) ∧ ∀ i m H, W i m H →
  (J.stop i H ∧ Q (.ref D) H) ∨ (J.go i H ∧ ∃ Nx : Hp → Prop, (∀ H', Nx H' → ∃ m', m' < m ∧ W (i + 1) m' H') ∧ ∀ x H', J.yld i H x H' → g x (wipe σ vs) H' fun σ2 H2 => wipe σ2 vs = wipe σ vs ∧ tt σ2 H2 fun b H3 =>
    if b = true then tk σ2 H3 fun kv H4 => tv σ2 H4 fun y H5 => ∃ kvs ky, kv = kV ky ∧ H5 D = some (.dK kvs) ∧ kvs.length < sizeLine ∧ Nx (upd H5 D (.dK (putK kvs ky y))) else Nx H3)
end
end L2

set_option Elab.async false
set_option linter.all false
set_option maxRecDepth 100000
namespace L3
open PySem PySem.Spec PyProof.Rows L2
section
variable {X : Cx}
/-! ### dict comprehensions -/
open Classical in
noncomputable def dcL (w : Option Nat) (m0 : M) (g : D → En → Option En) (tt : CT) (ck cv : CE) (ρ : En) : List D → M → Option (List (Key × D) × M)
  | [], m => if Wt w m0 m then some ([], m) else none
  | d :: ds, m => if Wt w m0 m then (g d ρ).bind fun ρ1 => (tt ρ1 m).bind fun p => if p.1 = true then (ck ρ1 p.2).bind fun k => (cv ρ1 k.2).bind fun v => (keyD k.1).bind fun ky => (dcL w m0 g tt ck cv ρ ds v.2).bind fun r => some ((ky, v.1) :: r.1, r.2) else dcL w m0 g tt ck cv ρ ds p.2 else none
def dFold (acc ps : List (Key × D)) : List (Key × D) := ps.foldl (fun acc kv => putD acc kv.1 kv.2) acc
noncomputable def cDc (ci : CI) (g : D → En → Option En) (tt : CT) (ck cv : CE) (vs : List Nat) : CE := fun ρ m => (ci ρ m).bind fun p => if p.1.length ≤ sizeLine then (dcL p.2.1 p.2.2 g tt ck cv (wipeE ρ vs) p.1 p.2.2).bind fun q => some (.ref q.2.length, q.2 ++ [.dic (dFold [] q.1)]) else none
/-! ### xs * k -/
theorem RVs.rep {K : PySem.W.Frag} {ι : List Addr} {H : Hp} {ds : List D} {vs : List V} (h : RVs K ι H ds vs) : ∀ k : Nat, RVs K ι H (List.replicate k ds).flatten (List.replicate k vs).flatten
  | 0 => .nil
  | k + 1 => by rw [List.replicate_succ, List.replicate_succ, List.flatten_cons, List.flatten_cons]; exact h.append (RVs.rep h k)
theorem lop_rep : LOp X (binaryOp .Mult) fRep := ⟨_, op_rep, fun x y m d m' ι H v w Q e rm rx ry k => by
  unfold fRep at e
  split at e
  · obtain ⟨ds, e1, e⟩ := Option.bind_eq_some_iff.mp e
    split at e
    · rename_i hz
      cases e; cases ry
      obtain ⟨n, a, vs, rfl, hi, rfl, h, t⟩ := lst_of rm rx e1
      exact ⟨a, _, vs, rfl, rfl, h, hz.1, hz.2.1, by rw [← t.length]; exact hz.2.2, ko_lst rm (t.rep _) k⟩
    · cases e
  · cases e⟩
def fMulL : F2 := fOr fMul fRep
/-! ### zip, enumerate of lists -/
def iZipD (cs : CA) : CI := fun ρ m => match cs ρ m with
  | some ([.ref i, .ref j], m') => match m'[i]?, m'[j]? with
    | some (.lst xs), some (.lst ys) => none
    | _, _ => none
  | _ => none
end
/-- a tuple target keeps the number of names -/
theorem gsNil_len : ∀ ds ρ ρ', gsNil ds ρ = some ρ' → ρ'.length = ρ.length := fun ds ρ ρ' e => by
  unfold gsNil at e
  split at e
  · cases e; rfl
  · cases e
theorem gsCons_len {a : D → En → Option En} {b : List D → En → Option En} (ha : ∀ d ρ ρ', a d ρ = some ρ' → ρ'.length = ρ.length) (hb : ∀ ds ρ ρ', b ds ρ = some ρ' → ρ'.length = ρ.length) : ∀ ds ρ ρ', gsCons a b ds ρ = some ρ' → ρ'.length = ρ.length := fun ds ρ ρ' e => by
  unfold gsCons at e
  split at e
  · cases e
  · obtain ⟨ρ1, e1, e⟩ := Option.bind_eq_some_iff.mp e
    rw [hb _ _ _ e, ha _ _ _ e1]
theorem gTupD_len {n : Nat} {g : List D → En → Option En} (h : ∀ ds ρ ρ', g ds ρ = some ρ' → ρ'.length = ρ.length) : ∀ d ρ ρ', gTupD n g d ρ = some ρ' → ρ'.length = ρ.length := fun d ρ ρ' e => by
  unfold gTupD at e
  split at e
  · split at e
    · exact h _ _ _ e
    · cases e
  · cases e
end L3

set_option Elab.async false
set_option linter.all false
set_option maxRecDepth 100000
namespace PySem
open Sem (wp)
open AutoSeq1 (wpAny_loadPart')
section
variable {prog : Program} {w : World} {A : Around} {E : Value → Shared → Prop} {s : Shared}
end
abbrev ziptH1 (h : Heap) (l1 : Addr) : Heap := h.push { cls := .type "tuple_iterator", data := .fields #[.ref l1, .int 0 0] }
abbrev ziptH2 (h : Heap) (l1 l2 : Addr) : Heap := (ziptH1 h l1).push { cls := .type "tuple_iterator", data := .fields #[.ref l2, .int 0 0] }
abbrev ziptH3 (h : Heap) (l1 l2 : Addr) : Heap := (ziptH2 h l1 l2).push { cls := .type "tuple", data := .seq #[.ref h.objs.size, .ref (ziptH1 h l1).objs.size] }
abbrev ziptH4 (h : Heap) (l1 l2 : Addr) : Heap := (ziptH3 h l1 l2).push { cls := .type "tuple", data := .seq #[.none, .none] }
abbrev ziptH5 (h : Heap) (l1 l2 : Addr) : Heap := (ziptH4 h l1 l2).push { cls := .type "zip", data := .fields #[.none, .bool false, .bool false, .ref (ziptH2 h l1 l2).objs.size, .ref (ziptH3 h l1 l2).objs.size] }
section
variable {prog : Program} {w : World} {A : Around} {E : Value → Shared → Prop} {s : Shared}
end
end PySem
namespace L2
open PySem PySem.Spec PyProof.Rows
def ItzT (K : PySem.W.Frag) (a b : Addr) : It :=
  ⟨fun i H => ∃ (xs ys : List V) (x y : V), SqT K H a xs ∧ SqT K H b ys ∧ xs[i]? = some x ∧ ys[i]? = some y,
    fun i H v H' => ∃ T x y, v = .ref T ∧ H T = none ∧ H' = upd H T (.tup [x, y]) ∧ (∀ xs, SqT K H a xs → xs[i]? = some x) ∧ ∀ ys, SqT K H b ys → ys[i]? = some y,
    fun i H => ∃ xs ys : List V, SqT K H a xs ∧ SqT K H b ys ∧ (xs.length ≤ i ∨ ys.length ≤ i)⟩
def iZipT (K : PySem.W.Frag) (ta : TA) : TI := fun σ H R => ta σ H fun vs H1 => ∃ a b xs ys, vs = [.ref a, .ref b] ∧ SqT K H1 a xs ∧ SqT K H1 b ys ∧ R (ItzT K a b) H1
end L2

set_option Elab.async false
set_option linter.all false
set_option maxRecDepth 100000
namespace L3
open PySem PySem.Spec PyProof.Rows L2
section
variable {X : Cx}
/-! ### zip of two tuples -/
def iZipTD (cs : CA) : CI := fun ρ m => match cs ρ m with
  | some ([.tup xs, .tup ys], m') => some (List.zipWith (fun a b => D.tup [a, b]) xs ys, none, m')
  | _ => none
/-! ### *xs among written items -/
def tStar (K : PySem.W.Frag) (te : TE) (t : TA) : TA := fun σ H Q => te σ H fun x H1 => ∃ a xs, x = .ref a ∧ (SqL K H1 a xs ∨ SqT K H1 a xs) ∧ t σ H1 fun ys H2 => Q (xs ++ ys) H2
theorem pa_star {e : Expr} {es : List Expr} {p : Pos} {te : TE} {t : TA} (ha : PE X e te) (hr : PA X es t) (hs : starEach (.Starred e p :: es) X.env = (true, eval e X.env) :: starEach es X.env := by rfl) : PA X (.Starred e p :: es) (tStar X.K te t) := by
  intro pos pins s σ H Q I h
  refine PySem.W.items_star (thn (ha pins s σ H _ I h) fun u s1 ⟨x, H1, I1, r1, a, xs, ex, hq, q1⟩ => ?_) hs
  subst ex
  cases r1
  have go : ∀ (its : List Value) (o : Obj) (n : Nat) (T : String), Vals xs its → s1.heap.get? a = some o → o.cls = .type T → o.data = .seq its.toArray n → (T = "list" ∨ T = "tuple") → xs.length ≤ sizeLine →
      wpAny (model X.prog X.w) X.A (collect (.ref a)) (fun here s₂ => wpAny (model X.prog X.w) X.A (spliced (backTo pos (starEach es X.env))) (fun vs s₃ => AP X pins σ Q (here ++ vs) s₃) X.xe s₂) X.xe s1 := by
    intro its o n T rv ho hc hd hT hz
    have hl := rv.length
    refine wpAny_collect_seq a hT ho hc hd (fun h' hk => ?_) (by rw [List.size_toArray]; omega)
    have I2 : Inv X pins σ H1 { s1 with heap := h' } := I1.kept (t' := s1.toks) hk
    exact thn (hr pos pins _ σ H1 _ I2 q1) fun us s2 ⟨ys, H2, I2, r2, q2⟩ => ⟨xs ++ ys, H2, I2, by simpa using rv.append r2, q2⟩
  unfold PySem.W.StarOf notIterableAtAll
  rcases hq with hq | hq
  · obtain ⟨its, rv, pp, hz⟩ := I1.list hq
    obtain ⟨o, n, ho, hc, _, hd⟩ := id pp
    exact wpAny_bind (wpAny_specialOf ⟨o, ho, hc⟩ PySem.F.slot_list_iter.lookup (wpAny_pure ⟨rfl, go its o n "list" rv ho hc hd (.inl rfl) hz⟩))
  · obtain ⟨its, rv, pp, hz⟩ := I1.tuple hq
    obtain ⟨o, ho, hc, n, hd⟩ := id pp
    exact wpAny_bind (wpAny_specialOf ⟨o, ho, hc⟩ PySem.F.slot_tuple_iter.lookup (wpAny_pure ⟨rfl, go its o n "tuple" rv ho hc hd (.inr rfl) hz⟩))
def cStar (c : CE) (cs : CA) : CA := fun ρ m => (c ρ m).bind fun p => (itemsD p.1 p.2).bind fun xs => (cs ρ p.2).bind fun q => some (xs ++ q.1, q.2)
theorem la_star {e : Expr} {es : List Expr} {p : Pos} {c : CE} {cs : CA} (h : LE X e c) (hs : LA X es cs) (hst : starEach (.Starred e p :: es) X.env = (true, eval e X.env) :: starEach es X.env := by rfl) : LA X (.Starred e p :: es) (cStar c cs) := by
  obtain ⟨t, pt, ht⟩ := h.ex
  obtain ⟨u, pu, hu⟩ := hs.ex
  refine ⟨_, pa_star pt pu hst, fun ρ m ds m' ι σ H Q e r s k => ?_⟩
  unfold cStar at e
  obtain ⟨⟨d, m1⟩, e1, e⟩ := Option.bind_eq_some_iff.mp e
  obtain ⟨xs, e3, e⟩ := Option.bind_eq_some_iff.mp e
  obtain ⟨⟨es, m2⟩, e2, e⟩ := Option.bind_eq_some_iff.mp e
  cases e
  refine ht ρ m d m1 ι σ H _ e1 r s fun ι1 H1 v g1 r1 h1 => ?_
  obtain ⟨a, vs, rfl, hq, t⟩ := items_of r1 h1 e3
  refine ⟨a, vs, rfl, hq, ?_⟩
  refine hu ρ m1 es m2 ι1 σ H1 _ e2 r1 (s.gr r g1) fun ι2 H2 ws g2 r2 h2 => ?_
  exact k ι2 H2 _ (g1.trans g2) r2 ((t.gr r1 g2).append h2)
/-! ### xs[::-1] of a list -/
def tRevL (K : PySem.W.Frag) (te ts : TE) : TE := fun σ H Q => te σ H fun x H1 => ts σ H1 fun y H2 => ∃ a xs, x = .ref a ∧ y = .int (-1) ∧ SqL K H2 a xs ∧ ∀ p, H2 p = none → Q (.ref p) (upd H2 p (.lst xs.reverse))
def cRevL (c s : CE) : CE := fun ρ m => (c ρ m).bind fun p => (s ρ p.2).bind fun q => match q.1 with
  | .int (-1) => (lstD p.1 q.2).bind fun ds => some (.ref q.2.length, q.2 ++ [.lst ds.reverse])
  | _ => none
/-! ### xs.extend(tuple) -/
end
end L3
namespace L2
open PySem PySem.Spec PyProof.Rows
open PySem.AutoSeq1 (wpAny_loadPart')
def rExtendT (K : PySem.W.Frag) : V → List V → Hp → VK → Prop := fun x vs H Q => ∃ l b xs zs, x = .ref l ∧ vs = [.ref b] ∧ H l = some (.lst xs) ∧ SqT K H b zs ∧ xs.length + zs.length ≤ sizeLine ∧ Q .non (upd H l (.lst (xs ++ zs)))
/-- a, b, c = x, y, z with plain local names -/
def tPar3 (i j l : Nat) (ta : TA) : TS := fun D σ H => ta σ H fun vs H1 => ∃ v w u, vs = [v, w, u] ∧ D.nx (((σ.set i (some v)).set j (some w)).set l (some u)) H1
end L2
namespace L3
open PySem PySem.Spec PyProof.Rows L2
section
variable {X : Cx}
def extendTD : F3 := fun x ds m => match ds with
  | [.tup zs] => (lstN x m).bind fun p => if p.2.length + zs.length ≤ sizeLine then some (.non, m.set p.1 (.lst (p.2 ++ zs))) else none
  | _ => none
def cPar3 (i j l : Nat) (cs : CA) : CS := fun ρ m => (cs ρ m).bind fun p => match p.1 with
  | [a, b, c] => some (.nx (((ρ.set i (some a)).set j (some b)).set l (some c)), p.2)
  | _ => none
/-! ### a def called by names: k by place, j by name; pm tells which of them each parameter takes -/
def apG {α : Type} (k j : Nat) (pm : List Nat) (us ws : List α) : List α := if us.length = k ∧ ws.length = j then pm.filterMap fun i => (us ++ ws)[i]? else []
theorem RVs.pick {K : PySem.W.Frag} {ι : List Addr} {H : Hp} {ds : List D} {vs : List V} (h : RVs K ι H ds vs) : ∀ pm : List Nat, RVs K ι H (pm.filterMap fun i => ds[i]?) (pm.filterMap fun i => vs[i]?)
  | [] => .nil
  | i :: pm => by
    rw [List.filterMap_cons, List.filterMap_cons]
    cases e : ds[i]? with
    | none =>
      have : vs[i]? = none := by rw [List.getElem?_eq_none_iff, ← h.length, ← List.getElem?_eq_none_iff]; exact e
      rw [this]; exact RVs.pick h pm
    | some d =>
      obtain ⟨v, e2, r⟩ := h.get e
      rw [e2]; exact .cons r (RVs.pick h pm)
theorem Vals.pick {vs : List V} {us : List Value} (h : Vals vs us) : ∀ pm : List Nat, Vals (pm.filterMap fun i => vs[i]?) (pm.filterMap fun i => us[i]?)
  | [] => .nil
  | i :: pm => by
    rw [List.filterMap_cons, List.filterMap_cons]
    cases e : vs[i]? with
    | none =>
      have : us[i]? = none := by rw [List.getElem?_eq_none_iff, ← h.length, ← List.getElem?_eq_none_iff]; exact e
      rw [this]; exact Vals.pick h pm
    | some d =>
      obtain ⟨v, e2, r⟩ := h.get e
      rw [e2]; exact .cons r (Vals.pick h pm)
theorem perm_app {n k j : Nat} {pm : List Nat} : Perm3 n (apG k j pm) (apG k j pm) := ⟨fun h g => by
  unfold apG
  rw [h.length, g.length]
  split
  · exact (h.append g).pick pm
  · exact .nil⟩
theorem kb_app {k j : Nat} {pm : List Nat} {x qual : Str} {st : Stmt} {f : Addr} {fd : FuncData} {ps ks : List Str} {K : PySem.W.Frag} (F : Fun K x qual st f fd) (hp : ps ≠ [])
    (h : ∀ (kV doc pm' : Value) (an : Option Addr) (cdv ct : Value) (us ws : List Value), us.length = k → ws.length = j → bindArgs (PySem.W.fnOf x qual (defArgs st) (defBody st) (defScope st) .none kV doc pm' an cdv ct) ⟨us, ks.zip ws⟩ = pure (ps.zip (apG k j pm us ws))) : KBinds K fd ps ks (apG k j pm) (apG k j pm) := by
  obtain ⟨oc, od, kV, doc, pm', an, cdv, ct, osl, rfl, lk, hcd⟩ := F.ex
  refine ⟨fun s us ws _ hl => ?_, fun r z => ?_⟩
  · by_cases hu : us.length = k ∧ ws.length = j
    · exact .of_eq (h kV doc pm' an cdv ct us ws hu.1 hu.2)
    · exfalso
      unfold apG at hl
      rw [if_neg hu] at hl
      cases ps with
      | nil => exact hp rfl
      | cons _ _ => simp at hl
  · unfold apG
    rw [r.length, z.length]
    split
    · exact Vals.pick (Vals.append r z) pm
    · exact .nil
/-- a tuple of the module -/
theorem le_globT2 {x : Str} {ds : List D} {pos : Pos} (hg : Gl X x) (hm : ∃ a, X.mg x = some (.ref a) ∧ ∀ ι H, RV X.K ι H (.tup ds) (.ref a)) (hd : (x == ("__debug__" : Str)) = false := by decide) : LE X (.Name x pos) (cC (.tup ds)) :=
  let ⟨_, hm, hv⟩ := hm
  ⟨_, pe_glob (v := .ref _) hg hm rfl hd, fun ρ m d m' ι σ H Q e r s k => by cases e; exact k ι H _ .refl r (hv ι H)⟩
end
inductive RVm : List D → List Value → Prop where
  | nil : RVm [] []
  | int {i : Int} {t : Tok} {ds vs} : RVm ds vs → RVm (.int i :: ds) (.int i t :: vs)
  | str {i : Str} {t : Tok} {ds vs} : RVm ds vs → RVm (.str i :: ds) (.str i t :: vs)
theorem RVm.ok {K : PySem.W.Frag} {ι : List Addr} {H : Hp} {ds : List D} {us : List Value} (h : RVm ds us) : ∃ vs, Vals vs us ∧ RVs K ι H ds vs := by
  induction h with
  | nil => exact ⟨[], .nil, .nil⟩
  | @int i t ds vs _ ih => obtain ⟨ws, a, b⟩ := ih; exact ⟨.int i :: ws, .cons ⟨t, rfl⟩ a, .cons (.int i) b⟩
  | @str i t ds vs _ ih => obtain ⟨ws, a, b⟩ := ih; exact ⟨.str i :: ws, .cons ⟨t, rfl⟩ a, .cons (.str i) b⟩
theorem rv_mod {K : PySem.W.Frag} {a : Addr} {us : List Value} {n : Nat} {sl : Array (Option Value)} {ds : List D} (l : K.lookup a = some ⟨.type "tuple", none, .seq us.toArray n, sl⟩) (h : RVm ds us) (hz : us.length ≤ sizeLine) (ι : List Addr) (H : Hp) : RV K ι H (.tup ds) (.ref a) := by
  obtain ⟨vs, h1, h2⟩ := h.ok (K := K) (ι := ι) (H := H)
  exact .tup (.inr ⟨_, us.toArray, n, l, rfl, ⟨rfl, rfl⟩, by simpa using hz, by simpa using h1⟩) h2
end L3

set_option Elab.async false
set_option linter.all false
set_option maxRecDepth 100000
/-! The table of a set: its places rise -/
namespace L3
open PySem PySem.Spec PyProof.Rows L2
def Rise (xs : Array Nat) : Prop := xs.toList.Pairwise (· < ·)
theorem Rise.lt {xs : Array Nat} (h : Rise xs) {i j : Nat} (hij : i < j) (hj : j < xs.size) : xs[i]'(by omega) < xs[j] := by
  have := List.pairwise_iff_getElem.mp h i j (by simpa using (by omega : i < xs.size)) (by simpa using hj) hij
  simpa using this
/-- what the search tells: all before it are less, none from it on -/
theorem below_go {xs : Array Nat} {j : Nat} (h : Rise xs) : ∀ (fuel lo hi : Nat), hi ≤ xs.size → lo ≤ hi → hi - lo ≤ fuel → (∀ k (hk : k < xs.size), k < lo → xs[k] < j) → (∀ k (hk : k < xs.size), hi ≤ k → j ≤ xs[k]) →
    let r := SetTable.below.go xs j fuel lo hi
    r ≤ xs.size ∧ (∀ k (hk : k < xs.size), k < r → xs[k] < j) ∧ ∀ k (hk : k < xs.size), r ≤ k → j ≤ xs[k]
  | 0, lo, hi, h1, h2, h3, h4, h5 => by
    have : lo = hi := by omega
    subst this
    exact ⟨h1, h4, h5⟩
  | fuel + 1, lo, hi, h1, h2, h3, h4, h5 => by
    unfold SetTable.below.go
    by_cases hlt : lo < hi
    · simp only [hlt, if_true]
      have hm : (lo + hi) / 2 < xs.size := by omega
      have e : xs.getD ((lo + hi) / 2) j = xs[(lo + hi) / 2] := by simp [Array.getD, hm]
      rw [e]
      by_cases hx : xs[(lo + hi) / 2] < j
      · simp only [hx, if_true]
        refine below_go h fuel _ hi h1 (by omega) (by omega) (fun k hk hkl => ?_) h5
        by_cases hkm : k = (lo + hi) / 2
        · subst hkm; exact hx
        · exact Nat.lt_trans (h.lt (i := k) (j := (lo + hi) / 2) (by omega) hm) hx
      · simp only [hx, if_false]
        refine below_go h fuel lo _ (by omega) (by omega) (by omega) h4 (fun k hk hkl => ?_)
        by_cases hkm : k = (lo + hi) / 2
        · subst hkm; omega
        · have := h.lt (i := (lo + hi) / 2) (j := k) (by omega) hk; omega
    · simp only [hlt, if_false]
      have : lo = hi := by omega
      subst this
      exact ⟨h1, h4, h5⟩
theorem below_spec {xs : Array Nat} (h : Rise xs) (j : Nat) : SetTable.below xs j ≤ xs.size ∧ (∀ k (hk : k < xs.size), k < SetTable.below xs j → xs[k] < j) ∧ ∀ k (hk : k < xs.size), SetTable.below xs j ≤ k → j ≤ xs[k] :=
  below_go h xs.size 0 xs.size (Nat.le_refl _) (Nat.zero_le _) (by omega) (fun k _ h => absurd h (Nat.not_lt_zero _)) (fun k hk h => absurd hk (by omega))
theorem below_zero {xs : Array Nat} (h : Rise xs) : SetTable.below xs 0 = 0 := by
  obtain ⟨h1, h2, h3⟩ := below_spec h 0
  cases hb : SetTable.below xs 0 with
  | zero => rfl
  | succ n =>
    rw [hb] at h1 h2
    exact absurd (h2 0 (by omega) (by omega)) (Nat.not_lt_zero _)
theorem below_next {xs : Array Nat} (h : Rise xs) {i : Nat} (hi : i < xs.size) : SetTable.below xs (xs[i] + 1) = i + 1 := by
  obtain ⟨h1, h2, h3⟩ := below_spec h (xs[i] + 1)
  have a : ¬ SetTable.below xs (xs[i] + 1) ≤ i := fun z => by have := h3 i hi z; omega
  have b : ¬ i + 1 < SetTable.below xs (xs[i] + 1) := fun z => by
    have h4 := h2 (i + 1) (by omega) z
    have := h.lt (i := i) (j := i + 1) (by omega) (by omega)
    omega
  omega
/-- a slot that is met empty is no place -/
theorem slot_empty {t : SetTable} (h : Rise t.place) {j : Nat} (e : t.slot j = .empty) : ∀ k (hk : k < t.place.size), t.place[k] ≠ j := by
  intro k hk hj
  obtain ⟨h1, h2, h3⟩ := below_spec h j
  have a : ¬ k < SetTable.below t.place j := fun z => by have := h2 k hk z; omega
  have b : ¬ SetTable.below t.place j < k := fun z => by
    have h4 := h3 (SetTable.below t.place j) (by omega) (Nat.le_refl _)
    have := h.lt z hk
    omega
  have : SetTable.below t.place j = k := by omega
  unfold SetTable.slot at e
  rw [this] at e
  simp [hk, hj] at e
/-- a place that is put in its row keeps it rising -/
theorem insert_rise {xs : Array Nat} (h : Rise xs) {j : Nat} (hn : ∀ k (hk : k < xs.size), xs[k] ≠ j) : Rise (SetTable.insertAt xs (SetTable.below xs j) j) := by
  obtain ⟨h1, h2, h3⟩ := below_spec h j
  unfold Rise SetTable.insertAt
  have e : ((xs.extract 0 (SetTable.below xs j)).push j ++ xs.extract (SetTable.below xs j) xs.size).toList = xs.toList.take (SetTable.below xs j) ++ j :: xs.toList.drop (SetTable.below xs j) := by
    simp [Array.toList_extract, List.extract]
    rw [List.take_of_length_le (by simp)]
  rw [e, List.pairwise_append]
  refine ⟨List.Pairwise.sublist (List.take_sublist _ _) h, ?_, fun a ha b hb => ?_⟩
  · rw [List.pairwise_cons]
    refine ⟨fun b hb => ?_, List.Pairwise.sublist (List.drop_sublist _ _) h⟩
    obtain ⟨i, hi, rfl⟩ := List.mem_iff_getElem.mp hb
    rw [List.length_drop, Array.length_toList] at hi
    have := h3 (SetTable.below xs j + i) (by omega) (by omega)
    have := hn (SetTable.below xs j + i) (by omega)
    simp at *
    omega
  · obtain ⟨i, hi, rfl⟩ := List.mem_iff_getElem.mp ha
    rw [List.length_take, Array.length_toList] at hi
    have ha' := h2 i (by omega) (by omega)
    rcases List.mem_cons.mp hb with rfl | hb
    · simpa using ha'
    · obtain ⟨k, hk, rfl⟩ := List.mem_iff_getElem.mp hb
      rw [List.length_drop, Array.length_toList] at hk
      have := h3 (SetTable.below xs j + k) (by omega) (by omega)
      simp at *
      omega
end L3
namespace L3
open PySem PySem.Spec PyProof.Rows L2
/-- the table of a set that nothing was taken out of -/
structure Tab (w : World) (t : SetTable) : Prop where
  rise : Rise t.place
  clean : t.dummies = #[]
  led : t.led = !(w.params.followText "set-order")
theorem Tab.off {w : World} {t : SetTable} (h : Tab w t) : Tab w { t with plain := false } := ⟨h.rise, h.clean, h.led⟩
theorem rise_range (n : Nat) : Rise (Array.range n) := by
  unfold Rise
  rw [Array.toList_range]
  exact List.pairwise_lt_range
theorem Tab.standIn {w : World} {t : SetTable} (h : Tab w t) (n : Nat) : Tab w (t.standIn n) := ⟨rise_range n, rfl, h.led⟩
theorem no_dummy {t : SetTable} (h : t.dummies = #[]) (j : Nat) : t.slot j ≠ .dummy := by
  unfold SetTable.slot
  simp only [h]
  split
  · exact fun z => nomatch z
  · have : SetTable.has #[] j = false := by unfold SetTable.has; simp
    rw [this]
    exact fun z => nomatch z
theorem probe_free {t : SetTable} (hc : t.dummies = #[]) {h : Int} : ∀ (fuel : Nat) (p : SetTable.Probe) {m : SetTable.Met}, p.dummy = none → SetTable.probe.go t (fun _ => h + 1) h fuel p = some m → ∃ j, m = .empty j none ∧ t.slot j = .empty
  | 0, p, m, _, e => by cases e
  | fuel + 1, p, m, hp, e => by
    unfold SetTable.probe.go at e
    split at e
    · rename_i hs
      cases e
      exact ⟨p.j, by rw [hp], hs⟩
    · rename_i hs
      exact absurd hs (no_dummy hc _)
    · rename_i i hs
      have : ((h + 1 : Int) == h) = false := by simp; omega
      rw [this] at e
      simp only [Bool.false_eq_true, if_false] at e
      refine probe_free hc fuel _ ?_ e
      unfold SetTable.advance
      split
      · exact hp
      · exact hp
theorem freeSlot_spec {w : World} {t : SetTable} (h : Tab w t) {hh : Int} {j : Nat} {b : Bool} (e : t.freeSlot hh = some (j, b)) : b = false ∧ t.slot j = .empty := by
  unfold SetTable.freeSlot at e
  split at e
  · rename_i j' d hp
    obtain ⟨k, e1, e2⟩ := probe_free h.clean _ _ rfl hp
    cases e1
    cases e
    exact ⟨rfl, e2⟩
  · cases e
theorem Tab.put {w : World} {t : SetTable} (h : Tab w t) {j : Nat} (e : t.slot j = .empty) : Tab w (t.put j).1 := by
  refine ⟨insert_rise h.rise (slot_empty h.rise e), ?_, h.led⟩
  show (if SetTable.has t.dummies j then _ else t.dummies) = #[]
  have : SetTable.has #[] j = false := by unfold SetTable.has; simp
  rw [h.clean, this]; rfl
theorem Tab.orStandIn {w : World} {t : SetTable} (h : Tab w t) (n : Nat) : Tab w (t.orStandIn n) := by
  unfold SetTable.orStandIn
  split
  · exact h
  · exact h.standIn n
theorem layNew_tab {w : World} {t : SetTable} (h : Tab w t) (es : Array (Int × Value)) (hh : Int) (x : Value) : Tab w (layNew t es hh x).2.1 := by
  unfold layNew
  split
  · rename_i slot d e
    exact (h.put (freeSlot_spec h e).2).orStandIn _
  · exact h.standIn _
theorem laid_tab {w : World} {mask finger moves : Nat} {led plain : Bool} {hashes : Array Int} {t : SetTable} {o : Array Nat} (hl : led = !(w.params.followText "set-order")) (e : SetTable.laid mask finger moves led plain hashes = some (t, o)) : Tab w t := by
  unfold SetTable.laid at e
  obtain ⟨ow, _, e⟩ := Option.bind_eq_some_iff.mp e
  cases e
  refine ⟨?_, rfl, hl⟩
  unfold Rise
  show ((List.filterMap (fun j => (ow.getD j none).map (fun x => (j, x))) (List.range (mask + 1))).map (fun x : Nat × Nat => x.1)).Pairwise (· < ·)
  rw [List.pairwise_map, List.pairwise_filterMap]
  refine List.Pairwise.imp ?_ (List.pairwise_lt_range (n := mask + 1))
  intro a b hab p hp q hq
  obtain ⟨_, _, rfl⟩ := Option.map_eq_some_iff.mp hp
  obtain ⟨_, _, rfl⟩ := Option.map_eq_some_iff.mp hq
  exact hab
theorem relayAll_tab {w : World} {t : SetTable} (h : Tab w t) (es : Array (Int × Value)) (n : Nat) : Tab w (relayAll t es n).2.1 := by
  unfold relayAll
  split
  · rename_i t' order e
    dsimp only
    split
    · exact laid_tab h.led e
    · exact h.standIn _
  · exact h.standIn _
theorem fresh_tab {w : World} : Tab w (SetTable.fresh 0 0 (!(w.params.followText "set-order"))) := ⟨List.Pairwise.nil, rfl, rfl⟩
end L3

set_option Elab.async false
set_option linter.all false
set_option maxRecDepth 100000
namespace PySem
section
variable {prog : Program} {w : World} {K : Type} [DecidableEq K] (knd : KeyKind prog w K)
def Heap.SetT (h : Heap) (a : Addr) (S : K → Bool) (n : Nat) : Prop :=
  ∃ o es ep t, h.get? a = some o ∧ o.ExactSet ∧ o.data = .set es ep t ∧ ElemsOf knd es.toList ∧ (∀ k, S k = true ↔ ∃ e ∈ es.toList, knd.is k e.2 = true)
    ∧ es.size < scanBound ∧ t.fits es.size = true ∧ es.size = n ∧ L3.Tab w t
variable {knd}
variable {A : Around} {E : Value → Shared → Prop} {s : Shared}
theorem SetT_store {h : Heap} {a : Addr} {o : Obj} {es : Array (Int × Value)} {ep : Nat} {t : SetTable} (ho : h.get? a = some o) (hex : o.ExactSet) (hd : o.data = .set es ep t)
    {es' : Array (Int × Value)} {t' : SetTable} {S' : K → Bool} (hel : ElemsOf knd es'.toList) (hmem : ∀ k, S' k = true ↔ ∃ e ∈ es'.toList, knd.is k e.2 = true) (hb : es'.size < scanBound) (hf : t'.fits es'.size = true) (hT : L3.Tab w t') :
    (h.update a (Obj.putSet es' t')).get? a = some { o with data := .set es' (ep + 1) t' } ∧ (h.update a (Obj.putSet es' t')).SetT knd a S' es'.size := by
  have hg : (h.update a (Obj.putSet es' t')).get? a = some { o with data := .set es' (ep + 1) t' } := by
    have := Heap.get?_update_self (Obj.putSet es' t') ho (by rw [putSet_of es' t' hd]; rfl)
    rw [putSet_of es' t' hd] at this; exact this
  exact ⟨hg, _, es', ep + 1, t', hg, hex, rfl, hel, hmem, hb, hf, rfl, hT⟩
theorem addTailT {g : Bool → Sem Unit} (hg : ∀ (b : Bool) (s₁ : Shared) (Q' : Unit → Shared → Prop), Q' () s₁ → wpAny (model prog w) A (g b) Q' E s₁)
    {a : Addr} {o : Obj} {es : Array (Int × Value)} {ep : Nat} {t : SetTable} (ho : s.heap.get? a = some o) (hex : o.ExactSet) (hd : o.data = .set es ep t)
    {es1 : Array (Int × Value)} {t2 : SetTable} {S' : K → Bool} (hel1 : ElemsOf knd es1.toList) (hmem1 : ∀ k', S' k' = true ↔ ∃ e ∈ es1.toList, knd.is k' e.2 = true)
    (hb1 : es1.size < scanBound) (hf2 : t2.fits es1.size = true) (hT2 : L3.Tab w t2) {wasDummy : Bool} {R : Option Bool → Shared → Prop}
    (h : ∀ h', Heap.SameBut a s.heap h' → h'.SetT knd a S' es1.size → R (some true) { s with heap := h' }) :
    wpAny (model prog w) A (do
        storeSet a es1 t2
        if (!wasDummy && t2.tooFull) = true then do
            g (relayAll t2 es1 (SetTable.grown es1.size)).2.2
            storeSet a (relayAll t2 es1 (SetTable.grown es1.size)).1 (relayAll t2 es1 (SetTable.grown es1.size)).2.1
            pure (some true)
          else pure (some true)) R E s := by
  refine wpAny_bind (wpAny_storeSet_of ho hd ?_ (fits_of_scanBound hb1))
  obtain ⟨ho1, hS1⟩ := SetT_store (knd := knd) ho hex hd hel1 hmem1 hb1 hf2 hT2
  have hsb1 := Heap.SameBut.update s.heap a (Obj.putSet es1 t2)
  split
  ·
    have hp := relayAll_perm t2 es1 (SetTable.grown es1.size)
    have hTr := L3.relayAll_tab hT2 es1 (SetTable.grown es1.size)
    have hfr := relayAll_fits t2 es1 (SetTable.grown es1.size)
    generalize hRl : relayAll t2 es1 (SetTable.grown es1.size) = Rl at hp hfr hTr ⊢
    obtain ⟨es2, t3, gave2⟩ := Rl
    dsimp only at hp hfr hTr ⊢
    have hel2 : ElemsOf knd es2.toList := hel1.perm hp
    have hmem2 : ∀ k', S' k' = true ↔ ∃ e ∈ es2.toList, knd.is k' e.2 = true := fun k' => (hmem1 k').trans ⟨fun ⟨e, he, q⟩ => ⟨e, hp.mem_iff.mpr he, q⟩, fun ⟨e, he, q⟩ => ⟨e, hp.mem_iff.mp he, q⟩⟩
    have hsz : es2.size = es1.size := by rw [← Array.length_toList, hp.length_eq, Array.length_toList]
    have hb2 : es2.size < scanBound := by rw [hsz]; exact hb1
    refine wpAny_bind (hg _ _ _ ?_)
    refine wpAny_bind (wpAny_storeSet_of ho1 rfl ?_ (fits_of_scanBound hb2))
    obtain ⟨_, hS2⟩ := SetT_store (knd := knd) ho1 hex rfl hel2 hmem2 hb2 hfr hTr
    rw [hsz] at hS2
    exact wpAny_pure (h _ (hsb1.trans (Heap.SameBut.update _ a _)) hS2)
  · exact wpAny_pure (h _ hsb1 hS1)
theorem setAddT {a : Addr} {S : K → Bool} {n : Nat} {k : K} {x : Value} {Q : Bool → Shared → Prop} (hkey : knd.is k x = true) (hsc : x.scannable = true) (hS : s.heap.SetT knd a S n)
    (hroom : n + 1 < scanBound)
    (h : ∀ h', Heap.SameBut a s.heap h' → h'.SetT knd a (fun k' => S k' || decide (k' = k)) (if S k then n else n + 1) → Q (!S k) { s with heap := h' }) :
    wpAny (model prog w) A (setAddHashed a x (knd.hash k)) Q E s := by
  obtain ⟨o, es, ep, t, ho, hex, hd, hel, hmem, hb, hf, hn, hT⟩ := hS
  have hb1 : es.size + 1 < scanBound := by rw [hn]; exact hroom
  unfold setAddHashed setAddHashedIn
  refine wpAny_holding (wpAny_bind (wpAny_setState_of ho hd hf ?_))
  dsimp only
  rw [byScan_of hsc hb hel]
  simp only [↓reduceIte]
  unfold setAddByScan
  refine wpAny_bind ?_
  refine wpAny_bind (wpAny_rule ?_)
  refine wpAny_bind (wpAny_setScan_of hkey ho hd hf hel ?_)
  cases hr : List.findIdx? (fun e => knd.is k e.2) es.toList with
  | some j =>

    dsimp only
    obtain ⟨hj, hpj, _⟩ := List.findIdx?_eq_some_iff_getElem.mp hr
    have hSk : S k = true := (hmem k).mpr ⟨es.toList[j], List.getElem_mem hj, hpj⟩
    refine wpAny_pure (wpAny_pure ?_)
    have e : s = { s with heap := s.heap } := by cases s; rfl
    have := h s.heap (Heap.SameBut.refl a s.heap) ⟨o, es, ep, t, ho, hex, hd, hel, fun k' => by
      rw [Bool.or_eq_true, decide_eq_true_eq, ← hmem k']
      exact ⟨fun hk => hk.elim id (fun e => e ▸ hSk), .inl⟩, hb, hf, by rw [hSk]; exact hn, hT⟩
    rw [hSk] at this; rw [e]; exact this
  | none =>

    dsimp only
    have hSk : S k = false := by
      cases hk : S k with
      | false => rfl
      | true => obtain ⟨e, he, hp⟩ := (hmem k).mp hk; have := List.findIdx?_eq_none_iff.mp hr e he; rw [hp] at this; exact Bool.noConfusion this
    have hgw : ∀ (b : Bool) {s₁ : Shared} {Q' : Unit → Shared → Prop}, Q' () s₁ → wpAny (model prog w) A (match b with | true => rule "set.scan.the-table-gave-way" | false => pure ()) Q' E s₁ :=
      fun b s₁ Q' hq => by cases b <;> first | exact wpAny_pure hq | exact wpAny_rule hq

    have hperm := layNew_perm t es (knd.hash k) x
    have hTl := L3.layNew_tab hT es (knd.hash k) x
    have hfits := layNew_fits t es (knd.hash k) x
    generalize hL : layNew t es (knd.hash k) x = L at hperm hfits hTl ⊢
    obtain ⟨es1, t1, wasDummy, gave⟩ := L
    dsimp only at hperm hfits hTl ⊢
    rw [Array.toList_push] at hperm
    have hel1 : ElemsOf knd es1.toList := (hel.push hkey hsc).perm hperm
    have hmem1 : ∀ k', (S k' || decide (k' = k)) = true ↔ ∃ e ∈ es1.toList, knd.is k' e.2 = true := mem_push_iff hkey hmem hperm
    have hb1' : es1.size < scanBound := by rw [← Array.length_toList, hperm.length_eq, List.length_append, Array.length_toList]; simpa using hb1
    refine wpAny_bind (hgw _ ?_)

    have hsz1 : es1.size = n + 1 := by rw [← Array.length_toList, hperm.length_eq, List.length_append, Array.length_toList, hn]; rfl
    have hend : ∀ h', Heap.SameBut a s.heap h' → h'.SetT knd a (fun k' => S k' || decide (k' = k)) es1.size → Q true { s with heap := h' } := by
      intro h' hsb hS'; have := h h' hsb; rw [hSk] at this; rw [hsz1] at hS'; exact this hS'
    split
    · refine wpAny_bind ?_
      rw [hashByValue_scannable 8 hsc]
      refine wpAny_pure ?_
      refine addTailT ?_ ho hex hd hel1 hmem1 hb1' ?_ ?_ ?_
      · intro b s₁ Q' hq; cases b <;> first | exact wpAny_pure hq | exact wpAny_rule hq
      · split
        · exact hfits
        · exact SetTable.fits_plain_off hfits
      · split
        · exact hTl
        · exact hTl.off
      · intro h' hsb hS'; dsimp only; exact wpAny_pure (hend h' hsb hS')
    · refine wpAny_bind (wpAny_pure ?_)
      simp only [↓reduceIte]
      refine addTailT ?_ ho hex hd hel1 hmem1 hb1' hfits hTl ?_
      · intro b s₁ Q' hq; cases b <;> first | exact wpAny_pure hq | exact wpAny_rule hq
      · intro h' hsb hS'; dsimp only; exact wpAny_pure (hend h' hsb hS')
end
end PySem
namespace PyProof.Rows
open PySem PySem.Spec
theorem SetT_congr {prog : Program} {w : World} {K : Type} [DecidableEq K] [BEq K] [LawfulBEq K] {knd : PySem.KeyKind prog w K} {h : Heap} {a : Addr} {S S' : K → Bool} {n n' : Nat}
    (hS : h.SetT knd a S n) (e : ∀ k, S k = S' k) (en : n = n') : h.SetT knd a S' n' := by
  have : S = S' := funext e
  subst this; subst en; exact hS
section
variable {prog : Program} {w : World} {A : Around} {R : Result → Shared → Prop} {I : Addr} {fp wr : List Addr} {G : Array GenState → Array GenState → Prop} {n : Nat} {P : Nat → Value → Prop} {St : Nat → Shared → Prop}
theorem set_update_loopT (W : WalksS prog w A.in1 I fp wr G n P St) (S : Addr) (hSf : S ∉ fp)
    (val : Nat → Int) (hval : ∀ i v, P i v → ∃ t, v = .int (val i) t) (hb : n + 1 < scanBound) :
    ∀ (k i : Nat) (s : Shared), n - i = k → i ≤ n → St i s →
      s.heap.SetT (intKind prog w) S (fun k' => (firstMet val i).any (· == k')) (firstMet val i).length →
      (∀ s', Moved (S :: wr) G s s' → s'.heap.SetT (intKind prog w) S (fun k' => (firstMet val n).any (· == k')) (firstMet val n).length → R (.ok (.ret .none)) s') →
      codeAny (model prog w) A (.builtin "set.update.loop" ⟨[.ref S, .ref I], []⟩) R s := by
  have hSw : S ∉ wr := fun h => hSf (W.sub _ h)
  have hsub : ∀ b ∈ wr, b ∈ S :: wr := fun b hb => List.mem_cons_of_mem _ hb
  intro k
  induction k with
  | zero =>
    intro i s hk hi hst hS hR
    have hin : i = n := by omega
    subst hin
    refine codeAny_builtin PyProof.Rows.F.entry_set_update_loop ?_
    rw [Around.under_plainId PyProof.Rows.F.plain_set_update_loop _]
    show wpAny _ A.in1 (pyNext (.ref I) >>= _) _ _ s
    refine wpAny_bind (W.done s _ _ hst fun s' hm => ?_)
    show wpAny _ A.in1 (ret Value.none) _ _ s'
    exact wpAny_pure (hR s' (hm.mono hsub) (by
      obtain ⟨o, es, ep, t, ho, rest⟩ := hS
      exact ⟨o, es, ep, t, hm.heap S _ hSw ho, rest⟩))
  | succ k ih =>
    intro i s hk hi hst hS hR
    have hlt : i < n := by omega
    refine codeAny_builtin PyProof.Rows.F.entry_set_update_loop ?_
    rw [Around.under_plainId PyProof.Rows.F.plain_set_update_loop _]
    show wpAny _ A.in1 (pyNext (.ref I) >>= _) _ _ s
    refine wpAny_bind (W.item i s _ _ hlt hst fun v s' hP hst' hm => ?_)
    obtain ⟨t, rfl⟩ := hval i v hP
    have hS' : s'.heap.SetT (intKind prog w) S (fun k' => (firstMet val i).any (· == k')) (firstMet val i).length := by
      obtain ⟨o, es, ep, tb, ho, rest⟩ := hS
      exact ⟨o, es, ep, tb, hm.heap S _ hSw ho, rest⟩
    show wpAny _ A.in1 (holding [Value.int (val i) t] (setAdd S (.int (val i) t)) >>= _) _ _ s'
    refine wpAny_bind (wpAny_holding ?_)
    unfold setAdd
    refine wpAny_holding ?_
    refine wpAny_bind ((intKind prog w).pyHash (k := val i) (intKind_is _ _ _ _) ?_)
    have hroom : (firstMet val i).length + 1 < scanBound := by have := firstMet_length_le val i; omega
    refine setAddT (knd := intKind prog w) (s := { s' with toks := s'.toks + 1 }) (intKind_is _ _ _ _) rfl hS' hroom fun h' hsb hS2 => ?_

    have hSi : h'.SetT (intKind prog w) S (fun k' => (firstMet val (i + 1)).any (· == k')) (firstMet val (i + 1)).length :=
      SetT_congr hS2 (fun k' => by rw [firstMet_succ, step_any]) (by rw [firstMet_succ, step_length])
    refine wpAny_pure ⟨plainId_quiet PyProof.Rows.F.plain_set_update_loop _, ih (i + 1) _ (by omega) hlt (W.frame _ s' _ _ hst' (Nat.le_succ _) fun b hb o e => ?_) hSi fun s'' hm'' hS'' => ?_⟩
    · rw [hsb.2 b (fun h : b = S => hSf (by rw [← h]; exact hb))]; exact e
    · refine hR s'' (Moved.trans W.gtrans ((hm.mono hsub).then_heap (Nat.le_succ _) fun b o hb e => ?_) hm'') hS''
      rw [hsb.2 b (fun h : b = S => hb (by rw [h]; exact List.mem_cons_self))]; exact e
end
end PyProof.Rows
namespace PySem
section
variable {prog : Program} {w : World} {A : Around} {E : Value → Shared → Prop} {s : Shared}
theorem code_set_newT (a : Value) {Q₁ : Value → Shared → Prop}
    (h : ∀ led : Bool, led = !(w.params.followText "set-order") → Q₁ (.ref s.heap.objs.size) { s with heap := s.heap.push { cls := .type "set", dict := none, data := .set #[] 0 (.fresh 0 0 led) } }) :
    codeAny (model prog w) A (.call (.builtin "set.__new__") ⟨[.type "set", a], []⟩) (wants Q₁ E) s := by
  refine codeAny_of_tree ?_
  show wpAny _ A.in1 (do checkBuiltinCall "set.__new__" ⟨[.type "set", a], []⟩; again (.builtin "set.__new__" ⟨[.type "set", a], []⟩)) _ _ s
  refine wpAny_bind (wpAny_of_eq (F.newCall_set_1 a) (wpAny_pure ⟨plainId_quiet F.plain_set_new _, codeAny_builtin F.entry_set_new ?_⟩))
  rw [Around.under_plainId F.plain_set_new _]
  unfold Builtin.«set.__new__» Builtin.Frozenset.newClass
  have hsub := sub_set_self
  obtain ⟨hp, g, d, tk, os⟩ := s
  dsimp only
  wp_walk
  refine wpAny_askSetting (wpAny_pure ?_)
  dsimp only
  simp only [newObj]
  refine wpAny_bind (wpAny_alloc (wpAny_pure ?_))
  exact wpAny_pure (h _ rfl)
set_option maxRecDepth 100000 in
set_option maxHeartbeats 3200000 in
theorem call_setT {l : Addr} {items : Array Value} {ns : List Int} {Q : Value → Shared → Prop}
    (hh : A.handled = none) (hl : s.heap.IsList l items) (hi : PyProof.Rows.IntsAre items.toList ns) (hb : items.size + 1 < scanBound)
    (h : ∀ (h' : Heap) (tk : Nat), h'.SetT (intKind prog w) s.heap.objs.size (fun k' => (PyProof.Rows.firstMet (fun i => ns.getD i 0) items.size).any (· == k')) (PyProof.Rows.firstMet (fun i => ns.getD i 0) items.size).length →
      (∀ b o, b < s.heap.objs.size → s.heap.get? b = some o → h'.get? b = some o) → Q (.ref s.heap.objs.size) { s with heap := h', toks := tk }) :
    wpAny (model prog w) A (call (.type "set") [.ref l]) Q E s := by
  obtain ⟨c, tl, hmro⟩ := F.called_set.mro
  have hmade := F.called_set.made
  have hsub := F.called_set.sub
  refine wpAny_call (codeAny_of_tree ?_)
  show wpAny _ _ (callAny (.type "set") _) _ _ _
  refine wpAny_pure ⟨Code.quiet_builtin _ (by decide +kernel), codeAny_builtin F.entry_type_call ?_⟩
  rw [Around.under_plain (weight_type_call_type "set" [.ref l] []) rfl]
  have h1 := F.called_set.notType
  have h2 := F.called_set.canCreate
  have hct := F.typeCall_set_1 (.ref l)
  repeat (any_goals (first | assumption | wp_step))

  refine codeAny_mono (code_set_newT (.ref l) (E := E) (Q₁ := fun obj s₁ => ∃ led : Bool, led = !(w.params.followText "set-order") ∧ obj = .ref s.heap.objs.size ∧ s₁ = { s with heap := s.heap.push { cls := .type "set", dict := none, data := .set #[] 0 (.fresh 0 0 led) } }) fun led hled => ⟨led, hled, rfl, rfl⟩) fun r s₁ hr => ?_
  cases r with
  | error e => exact hr
  | ok fl =>
    cases fl with
    | ret obj =>
      obtain ⟨led, hled, rfl, rfl⟩ := hr
      have hS : (s.heap.push { cls := .type "set", dict := none, data := .set #[] 0 (.fresh 0 0 led) }).get? s.heap.objs.size = some { cls := .type "set", dict := none, data := .set #[] 0 (.fresh 0 0 led) } := Heap.get?_push_size _ rfl
      have hT : Shared.TypeIs { s with heap := s.heap.push { cls := .type "set", dict := none, data := .set #[] 0 (.fresh 0 0 led) } } (.ref s.heap.objs.size) "set" := ⟨_, hS, rfl⟩
      have hli := F.called_set.init.lookup
      have hbi := F.called_set.init.bind (.ref s.heap.objs.size)
      repeat (any_goals (first | assumption | wp_step))

      refine codeAny_mono (codeAny_call_builtin (R := wants (fun r s₂ => r = .none ∧ ∃ h' tk, s₂ = { s with heap := h', toks := tk } ∧
          h'.SetT (intKind prog w) s.heap.objs.size (fun k' => (PyProof.Rows.firstMet (fun i => ns.getD i 0) items.size).any (· == k')) (PyProof.Rows.firstMet (fun i => ns.getD i 0) items.size).length ∧
          (∀ b o, b < s.heap.objs.size → s.heap.get? b = some o → h'.get? b = some o)) E) F.called_set.init.plain F.entry_set_init (check_set_init_1 hT ?_)) fun r₂ s₂ hr₂ => ?_
      · obtain ⟨ol, hol, hcl, nl, hdl⟩ := hl
        obtain ⟨ocls, odict, odata, oslots⟩ := ol
        simp only at hcl hdl
        subst hcl; subst hdl
        have hol' : (s.heap.push { cls := .type "set", dict := none, data := .set #[] 0 (.fresh 0 0 led) }).get? l = some { cls := .type "list", dict := odict, data := .seq items nl, slots := oslots } := Heap.get?_push_of_some _ hol
        have hsls := F.sub_list_set
        have hslf := F.sub_list_frozenset
        have hne : (Value.type "list" == Value.type "dict") = false := by decide
        have hl1 : (s.heap.push { cls := .type "set", dict := none, data := .set #[] 0 (.fresh 0 0 led) }).IsList l items := ⟨_, hol', rfl, nl, rfl⟩
        unfold Builtin.«set.__init__» noKeywords Builtin.Frozenset.updateFrom
        generalize hPI : pyIter = PI
        wp_walk
        subst hPI

        refine wpAny_pyIter_list hl1 ?_
        refine wpAny_bind (wpAny_runValue ?_)
        have hlS : l < s.heap.objs.size := Heap.lt_size hol
        have hh3 : A.in1.in1.in1.handled = none := by simp [hh]
        have hneI : l ≠ (s.heap.push { cls := .type "set", dict := none, data := .set #[] 0 (.fresh 0 0 led) }).objs.size := by
          rw [Heap.size_push]; exact Nat.ne_of_lt (Nat.lt_succ_of_lt hlS)
        have hSf : s.heap.objs.size ∉ [(s.heap.push { cls := .type "set", dict := none, data := .set #[] 0 (.fresh 0 0 led) }).objs.size, l] := by
          rw [Heap.size_push]; simp only [List.mem_cons, List.mem_singleton, List.not_mem_nil, or_false, not_or]
          exact ⟨Nat.ne_of_lt (Nat.lt_succ_self _), Nat.ne_of_gt hlS⟩
        have hval : ∀ (i : Nat) (v : Value), items[i]? = some v → ∃ t, v = .int ((fun i => ns.getD i 0) i) t := fun i v hv =>
          PyProof.Rows.IntsAre.int_at hi i v (by rw [Array.getElem?_toList]; exact hv)
        refine PyProof.Rows.set_update_loopT ((Walks.list hh3 _ l hneI items).toS) s.heap.objs.size
          hSf (fun i => ns.getD i 0) hval hb (items.size - 0) 0 _ (by omega) (Nat.zero_le _)
          ⟨⟨_, Heap.get?_push_size _ rfl, rfl, rfl⟩, (hl1.push _)⟩ ?hS0 ?hR
        case hS0 =>
          have hget : ((s.heap.push { cls := .type "set", dict := none, data := .set #[] 0 (.fresh 0 0 led) }).push { cls := .type "list_iterator", data := .fields #[.ref l, .int 0 0] }).get? s.heap.objs.size
              = some { cls := .type "set", dict := none, data := .set #[] 0 (.fresh 0 0 led) } := Heap.get?_push_of_some _ hS
          exact ⟨_, #[], 0, _, hget, ⟨rfl, rfl, rfl⟩, rfl, fun e he => by simp at he, fun k => by simp [PyProof.Rows.firstMet], by decide, rfl, rfl, by rw [hled]; exact L3.fresh_tab⟩
        case hR =>
          intro s' hm hS'
          obtain ⟨h', g', d', tk', os'⟩ := s'
          have eg : g' = s.gens := hm.gens
          have ed : d' = s.drawn := hm.drawn
          have eo : os' = s.os := hm.os
          subst eg; subst ed; subst eo
          show wpAny _ _ _ _ _ _
          refine wpAny_pure ?_
          show wpAny _ _ (ret Value.none) _ _ _
          refine wpAny_pure ⟨rfl, h', tk', rfl, hS', fun b o hb e => ?_⟩
          have hb1 : b ≠ s.heap.objs.size := Nat.ne_of_lt hb
          have hb2 : b ≠ (s.heap.push { cls := .type "set", dict := none, data := .set #[] 0 (.fresh 0 0 led) }).objs.size := by
            rw [Heap.size_push]; exact Nat.ne_of_lt (Nat.lt_succ_of_lt hb)
          exact hm.heap b o (by simp only [List.mem_cons, List.mem_singleton, List.not_mem_nil, or_false, not_or]; exact ⟨hb1, hb2⟩) (Heap.get?_push_of_some _ (Heap.get?_push_of_some _ e))

      · cases r₂ with
        | error e => exact hr₂
        | ok fl₂ =>
          cases fl₂ with
          | ret r =>
            obtain ⟨rfl, h', tk, rfl, hS', hk'⟩ := hr₂
            repeat (any_goals (first | assumption | wp_step))
            exact h _ _ hS' hk'
          | _ => exact hr₂.elim
    | _ => exact hr.elim
end
end PySem

set_option Elab.async false
set_option linter.all false
set_option maxRecDepth 100000
namespace PySem
namespace F
theorem owner_set_iterator : Manifest.owners.lookup (String.ofList ['r', 'o', 't', 'a', 'r', 'e', 't', 'i', '_', 't', 'e', 's'].reverse) = some Manifest.sig_set_iterator := by kernel_rfl
theorem slot_set_iterator_next : Slot "set_iterator" "__next__" "set_iterator.__next__" :=
  .of (owner := "set_iterator") (n := "__next__") (by rw [typeLookup_type, builtinLookup_eq_fast]; kernel_rfl) (by decide +kernel) (by decide +kernel) (by decide +kernel)
    (by first | exact .inl (by decide +kernel) | exact .inr (by decide +kernel)) (by rw [isSubtype_type]; kernel_rfl)
theorem entry_set_iterator_next : entryFor table "set_iterator.__next__" = some Builtin.«set_iterator.__next__» := entryFor_of_tree (by kernel_rfl)
theorem args_set_iterator_next_1 (a : Value) : argsOk "set_iterator.__next__" ⟨[a], []⟩ := by
  unfold argsOk; rw [signature?_of (id := "set_iterator.__next__") (n := ['_', '_', 't', 'x', 'e', 'n', '_', '_']) (o := ['r', 'o', 't', 'a', 'r', 'e', 't', 'i', '_', 't', 'e', 's']) (by kernel_rfl) owner_set_iterator]; kernel_rfl
end F
section
variable {prog : Program} {w : World} {A : Around} {E : Value → Shared → Prop} {s : Shared}
/-- an iterator of the set at a -/
def Heap.IsSetIter (h : Heap) (I a : Addr) (first : Value) (i n ep : Nat) : Prop := ∃ o, h.get? I = some o ∧ o.cls = .type "set_iterator" ∧ o.data = .fields #[first, rawInt i, .ref a, rawInt n, rawInt ep]
theorem Heap.IsSetIter.typeIs {I a : Addr} {f : Value} {i n ep : Nat} (x : s.heap.IsSetIter I a f i n ep) : s.TypeIs (.ref I) "set_iterator" := let ⟨o, ho, hc, _⟩ := x; ⟨o, ho, hc⟩
/-- the next one, where setNext tells it -/
theorem set_next_int {I a : Addr} {slot i n ep nxt : Nat} {x : Value} {o : Obj} {es : Array (Int × Value)} {t : SetTable} {Q : Option Value → Shared → Prop} (hit : s.heap.IsSetIter I a (rawInt slot) i n ep)
    (ho : s.heap.get? a = some o) (hd : o.data = .set es ep t) (hf : t.fits es.size = true) (hn : es.size = n)
    (hnx : ∀ (Q : Option (Value × Nat) → Shared → Prop) (A : Around) (E : Value → Shared → Prop), Q (some (x, nxt)) s → wpAny (model prog w) A (setNext a slot i ep) Q E s)
    (hQ : ∀ h', h'.IsSetIter I a (rawInt nxt) (i + 1) n ep → Heap.SameBut I s.heap h' → Q (some x) { s with heap := h' }) : wpAny (model prog w) A (pyNext (.ref I)) Q E s := by
  obtain ⟨oI, hoI, hcI, hdI⟩ := id hit
  unfold pyNext
  refine wpAny_bind (wpAny_attempt (wpAny_callSpecial?_slot (name := Str.ofString "__next__") hit.typeIs F.slot_set_iterator_next
    (wpAny_call_entry F.slot_set_iterator_next hit.typeIs F.entry_set_iterator_next ?_ (F.args_set_iterator_next_1 _))))
  unfold Builtin.«set_iterator.__next__»
  show wpAny _ _ (fieldsOf (.ref I) >>= _) _ _ s
  refine wpAny_bind ?_
  unfold fieldsOf
  refine wpAny_bind (wpAny_load hoI ?_)
  rw [hdI]
  refine wpAny_pure ?_
  show wpAny _ _ (setEntries a >>= _) _ _ s
  refine wpAny_bind (wpAny_setEntries_of ho hd hf ?_)
  rw [hn]
  have e0 : (((n : Int)) != ((n : Int))) = false := by simp
  show wpAny _ _ (if ((n : Int) != (n : Int)) = true then _ else _) _ _ s
  rw [e0, if_neg Bool.false_ne_true]
  show wpAny _ _ (setNext a slot i ep >>= _) _ _ s
  refine wpAny_bind (hnx _ _ _ ?_)
  dsimp only
  refine wpAny_bind (wpAny_setField hoI hdI (by simp) ?_)
  have hI1 := Heap.get?_update_self (Obj.mapFields (·.setIfInBounds 0 (rawInt nxt))) hoI (Obj.isFreed_of_fields (Obj.data_mapFields hdI _))
  refine wpAny_bind (wpAny_setField hI1 (Obj.data_mapFields hdI _) (by simp) (wpAny_pure ⟨x, rfl, wpAny_pure (hQ _ ?_ ?_)⟩))
  · refine ⟨_, Heap.get?_update_self _ hI1 (Obj.isFreed_of_fields (Obj.data_mapFields (Obj.data_mapFields hdI _) _)), ?_, ?_⟩
    · rw [Obj.cls_mapFields, Obj.cls_mapFields]; exact hcI
    · rw [Obj.data_mapFields (Obj.data_mapFields hdI _)]; simp [rawInt]
  · exact (Heap.SameBut.update ..).trans (Heap.SameBut.update ..)
/-- by places -/
theorem setNext_place {a : Addr} {slot i : Nat} {o : Obj} {es : Array (Int × Value)} {ep : Nat} {t : SetTable} {Q : Option (Value × Nat) → Shared → Prop} (ho : s.heap.get? a = some o) (hd : o.data = .set es ep t) (hf : t.fits es.size = true) (T : L3.Tab w t)
    (hbt : w.params.followText "set-order" = false) (hdr : (!t.plain && decide (es.size > 1)) = false) (hb : SetTable.below t.place slot = i) (g : Nat) (hi : i < es.size) (hp : i < t.place.size)
    (h : Q (some (es[i].2, t.place[i] + 1)) s) : wpAny (model prog w) A (setNext a slot g ep) Q E s := by
  unfold setNext
  refine wpAny_bind (wpAny_setState_of ho hd hf ?_)
  dsimp only
  unfold setsByText
  refine wpAny_bind (wpAny_bind (wpAny_askSetting (wpAny_pure ?_)))
  dsimp only
  show wpAny _ _ (if w.params.followText "set-order" = true then _ else _) _ _ s
  rw [hbt, if_neg Bool.false_ne_true]
  show wpAny _ _ (if (!t.plain && decide (es.size > 1)) = true then _ else _) _ _ s
  rw [hdr, if_neg Bool.false_ne_true]
  have hl : t.led = true := by rw [T.led, hbt]; rfl
  show wpAny _ _ ((if (!t.led && !es.isEmpty) = true then unsupported "set:maker-not-led" else pure ()) >>= _) _ _ s
  rw [hl]
  refine wpAny_bind (wpAny_pure ?_)
  rw [hb]
  simp only [hi, hp, Array.getElem?_eq_getElem]
  exact wpAny_pure h
end
end PySem

set_option Elab.async false
set_option linter.all false
set_option maxRecDepth 100000
namespace PySem
section
variable {prog : Program} {w : World} {A : Around} {E : Value → Shared → Prop} {s : Shared}
theorem wpAny_choose {src : Source} {n : Nat} {Q : Nat → Shared → Prop} (hn : n ≠ 0) (h : ∀ i d, i < n → Q i { s with drawn := d }) : wpAny (model prog w) A (choose src n) Q E s :=
  fun _ _ _ => ⟨hn, h _ _ (Nat.mod_lt _ (Nat.pos_of_ne_zero hn))⟩
theorem perm_erase {α : Type} {xs : List α} {i : Nat} {x : α} (h : xs[i]? = some x) : (x :: xs.eraseIdx i).Perm xs := by
  induction xs generalizing i with
  | nil => simp at h
  | cons y ys ih =>
    cases i with
    | zero => simp at h; subst h; simp
    | succ i =>
      rw [List.eraseIdx_cons_succ]
      exact (List.Perm.swap y x _).trans ((ih (by simpa using h)).cons y)
theorem wpAny_drawOrder {α : Type} : ∀ (n : Nat) (xs : List α) (s : Shared) {Q : List α → Shared → Prop}, xs.length = n → (∀ ys d, ys.Perm xs → Q ys { s with drawn := d }) → wpAny (model prog w) A (drawOrder n xs) Q E s
  | 0, xs, s, Q, hl, h => by
    have : xs = [] := List.length_eq_zero_iff.mp hl
    subst this
    exact wpAny_pure (h [] s.drawn .nil)
  | n + 1, [], s, Q, hl, h => by simp at hl
  | n + 1, y :: ys, s, Q, hl, h => by
    unfold drawOrder
    refine wpAny_bind (wpAny_choose (by simp) fun i d hi => ?_)
    have e : (y :: ys)[i]? = some (y :: ys)[i] := List.getElem?_eq_getElem hi
    rw [e]
    dsimp only
    refine wpAny_bind (wpAny_drawOrder n _ _ (by rw [List.length_eraseIdx_of_lt hi, hl]; rfl) fun zs d' hz => wpAny_pure ?_)
    exact h _ d' ((hz.cons _).trans (perm_erase e))
theorem pick_perm {α : Type} (next : Nat → Nat) : ∀ (fuel k : Nat) (left : List α) (out : Array α), left.length = fuel → (pickOrder.go next fuel k left out).toList.Perm (out.toList ++ left)
  | 0, k, left, out, h => by
    have : left = [] := List.length_eq_zero_iff.mp h
    subst this
    unfold pickOrder.go
    simp
  | fuel + 1, k, left, out, h => by
    unfold pickOrder.go
    have hi : next k % left.length < left.length := Nat.mod_lt _ (by omega)
    have e : left[next k % left.length]? = some left[next k % left.length] := List.getElem?_eq_getElem hi
    rw [e]
    dsimp only
    refine (pick_perm next fuel (k + 1) _ _ (by rw [List.length_eraseIdx_of_lt hi, h]; rfl)).trans ?_
    rw [Array.toList_push, List.append_assoc]
    exact List.Perm.append_left _ (perm_erase e)
theorem pickOrder_perm {α : Type} (next : Nat → Nat) (xs : Array α) : (pickOrder next xs).toList.Perm xs.toList := by
  have := pick_perm next xs.size 0 xs.toList #[] (by simp)
  have e : (pickOrder next xs).toList = (pickOrder.go next xs.size 0 xs.toList #[]).toList := rfl
  rw [e]
  simpa using this
theorem setNext_text {a : Addr} {slot i : Nat} {o : Obj} {es : Array (Int × Value)} {ep : Nat} {t : SetTable} {Q : Option (Value × Nat) → Shared → Prop} (ho : s.heap.get? a = some o) (hd : o.data = .set es ep t) (hf : t.fits es.size = true)
    (hbt : w.params.followText "set-order" = true) (h : Q (((pickOrder (w.params.setOrder a ep) es)[i]?).map fun e => (e.2, slot)) s) : wpAny (model prog w) A (setNext a slot i ep) Q E s := by
  unfold setNext
  refine wpAny_bind (wpAny_setState_of ho hd hf ?_)
  dsimp only
  unfold setsByText
  refine wpAny_bind (wpAny_bind (wpAny_askSetting (wpAny_pure ?_)))
  dsimp only
  show wpAny _ _ (if w.params.followText "set-order" = true then _ else _) _ _ s
  rw [hbt, if_pos rfl]
  have e0 : (ep != ep) = false := by simp
  show wpAny _ _ (if (ep != ep) = true then _ else _) _ _ s
  rw [e0, if_neg Bool.false_ne_true]
  refine wpAny_bind ?_
  unfold setWalk
  refine wpAny_bind (wpAny_setState_of ho hd hf ?_)
  dsimp only
  unfold setsByText
  refine wpAny_bind (wpAny_bind (wpAny_askSetting (wpAny_pure ?_)))
  dsimp only
  show wpAny _ _ (if w.params.followText "set-order" = true then _ else _) _ _ s
  rw [hbt, if_pos rfl]
  refine wpAny_bind (wpAny_askSetting (wpAny_pure (wpAny_pure h)))
theorem setNext_placeEnd {a : Addr} {slot : Nat} {o : Obj} {es : Array (Int × Value)} {ep : Nat} {t : SetTable} {Q : Option (Value × Nat) → Shared → Prop} (ho : s.heap.get? a = some o) (hd : o.data = .set es ep t) (hf : t.fits es.size = true) (T : L3.Tab w t)
    (hbt : w.params.followText "set-order" = false) (hdr : (!t.plain && decide (es.size > 1)) = false) (hb : SetTable.below t.place slot = es.size) (g : Nat)
    (h : Q none s) : wpAny (model prog w) A (setNext a slot g ep) Q E s := by
  unfold setNext
  refine wpAny_bind (wpAny_setState_of ho hd hf ?_)
  dsimp only
  unfold setsByText
  refine wpAny_bind (wpAny_bind (wpAny_askSetting (wpAny_pure ?_)))
  dsimp only
  show wpAny _ _ (if w.params.followText "set-order" = true then _ else _) _ _ s
  rw [hbt, if_neg Bool.false_ne_true]
  show wpAny _ _ (if (!t.plain && decide (es.size > 1)) = true then _ else _) _ _ s
  rw [hdr, if_neg Bool.false_ne_true]
  have hl : t.led = true := by rw [T.led, hbt]; rfl
  show wpAny _ _ ((if (!t.led && !es.isEmpty) = true then unsupported "set:maker-not-led" else pure ()) >>= _) _ _ s
  rw [hl]
  refine wpAny_bind (wpAny_pure ?_)
  rw [hb]
  simp only [Array.getElem?_eq_none (Nat.le_refl es.size)]
  exact wpAny_pure h
/-- the end, where setNext tells none -/
theorem set_next_intEnd {I a : Addr} {slot i n ep : Nat} {o : Obj} {es : Array (Int × Value)} {t : SetTable} {Q : Option Value → Shared → Prop} (hh : A.handled = none) (hit : s.heap.IsSetIter I a (rawInt slot) i n ep)
    (ho : s.heap.get? a = some o) (hd : o.data = .set es ep t) (hf : t.fits es.size = true) (hn : es.size = n)
    (hnx : ∀ (Q : Option (Value × Nat) → Shared → Prop) (A : Around) (E : Value → Shared → Prop), Q none s → wpAny (model prog w) A (setNext a slot i ep) Q E s)
    (hQ : ∀ h', Heap.ExtBut I s.heap h' → Q none { s with heap := h' }) : wpAny (model prog w) A (pyNext (.ref I)) Q E s := by
  obtain ⟨oI, hoI, hcI, hdI⟩ := id hit
  unfold pyNext
  refine wpAny_bind (wpAny_attempt (wpAny_callSpecial?_slot (name := Str.ofString "__next__") hit.typeIs F.slot_set_iterator_next
    (wpAny_call_entry F.slot_set_iterator_next hit.typeIs F.entry_set_iterator_next ?_ (F.args_set_iterator_next_1 _))))
  unfold Builtin.«set_iterator.__next__»
  show wpAny _ _ (fieldsOf (.ref I) >>= _) _ _ s
  refine wpAny_bind ?_
  unfold fieldsOf
  refine wpAny_bind (wpAny_load hoI ?_)
  rw [hdI]
  refine wpAny_pure ?_
  show wpAny _ _ (setEntries a >>= _) _ _ s
  refine wpAny_bind (wpAny_setEntries_of ho hd hf ?_)
  rw [hn]
  have e0 : (((n : Int)) != ((n : Int))) = false := by simp
  show wpAny _ _ (if ((n : Int) != (n : Int)) = true then _ else _) _ _ s
  rw [e0, if_neg Bool.false_ne_true]
  show wpAny _ _ (setNext a slot i ep >>= _) _ _ s
  refine wpAny_bind (hnx _ _ _ ?_)
  dsimp only
  refine wpAny_bind (wpAny_setField hoI hdI (by simp) ?_)
  show wpAny _ _ (newExc (.type "StopIteration") [] >>= _) _ _ _
  refine wpAny_bind ?_
  simp only [newExc, newTuple]
  refine wpAny_bind (wpAny_newObj_type ?_ (by size_fits))
  refine wpAny_bind (m := firstArgMember _ _) (wpAny_of_eq (a := Value.none) (by first | rfl | (simp only [firstArgMember]; rfl)) ?_)
  refine wpAny_newObj_type ?_ (by size_fits)
  simp only [raiseNew]
  refine wpAny_bind (wpAny_handled ?_)
  first | rw [show A.in1.handled = none from hh] | rw [hh]
  refine wpAny_bind (wpAny_pure (wpAny_throw ?_))
  refine wpAny_bind (wpAny_isInstance (T := "StopIteration") (b := true) ⟨_, Heap.get?_push_size _ rfl, rfl⟩ isSubtype_stop ?_)
  exact wpAny_pure (hQ _ (((Heap.SameBut.update ..).extBut.push _).push _))
/-- drawn: the next one -/
theorem set_next_drawn {I a T : Addr} {i n ep p : Nat} {places : Array Value} {x : Int × Value} {o : Obj} {es : Array (Int × Value)} {t : SetTable} {Q : Option Value → Shared → Prop} (hit : s.heap.IsSetIter I a (.ref T) i n ep) (hT : s.heap.IsTuple T places)
    (ho : s.heap.get? a = some o) (hd : o.data = .set es ep t) (hf : t.fits es.size = true) (hn : es.size = n) (hp : places[i]? = some (rawInt p)) (hx : es[p]? = some x)
    (hQ : ∀ h', h'.IsSetIter I a (.ref T) (i + 1) n ep → Heap.SameBut I s.heap h' → Q (some x.2) { s with heap := h' }) : wpAny (model prog w) A (pyNext (.ref I)) Q E s := by
  obtain ⟨oI, hoI, hcI, hdI⟩ := id hit
  obtain ⟨oT, hoT, _, nT, hdT⟩ := hT
  unfold pyNext
  refine wpAny_bind (wpAny_attempt (wpAny_callSpecial?_slot (name := Str.ofString "__next__") hit.typeIs F.slot_set_iterator_next
    (wpAny_call_entry F.slot_set_iterator_next hit.typeIs F.entry_set_iterator_next ?_ (F.args_set_iterator_next_1 _))))
  unfold Builtin.«set_iterator.__next__»
  show wpAny _ _ (fieldsOf (.ref I) >>= _) _ _ s
  refine wpAny_bind ?_
  unfold fieldsOf
  refine wpAny_bind (wpAny_load hoI ?_)
  rw [hdI]
  refine wpAny_pure ?_
  show wpAny _ _ (setEntries a >>= _) _ _ s
  refine wpAny_bind (wpAny_setEntries_of ho hd hf ?_)
  rw [hn]
  have e0 : (((n : Int)) != ((n : Int))) = false := by simp
  show wpAny _ _ (if ((n : Int) != (n : Int)) = true then _ else _) _ _ s
  rw [e0, if_neg Bool.false_ne_true]
  show wpAny _ _ (seqItems? (.ref T) >>= _) _ _ s
  refine wpAny_bind (wpAny_seqItems hoT hdT ?_)
  simp only [Int.toNat_natCast, hp]
  show wpAny _ _ (setNextDrawn a p ep >>= _) _ _ s
  refine wpAny_bind ?_
  unfold setNextDrawn
  refine wpAny_bind (wpAny_setState_of ho hd hf ?_)
  dsimp only
  have e1 : (ep != ep) = false := by simp
  show wpAny _ _ (if (ep != ep) = true then _ else _) _ _ s
  rw [e1, if_neg Bool.false_ne_true]
  simp only [hx]
  refine wpAny_pure ?_
  refine wpAny_bind (wpAny_setField hoI hdI (by simp) (wpAny_pure ⟨x.2, rfl, wpAny_pure (hQ _ ?_ (Heap.SameBut.update ..))⟩))
  exact ⟨_, Heap.get?_update_self _ hoI (Obj.isFreed_of_fields (Obj.data_mapFields hdI _)), (Obj.cls_mapFields ..).trans hcI, by
    rw [Obj.data_mapFields hdI]; simp [rawInt]⟩
theorem set_next_drawnEnd {I a T : Addr} {i n ep : Nat} {places : Array Value} {o : Obj} {es : Array (Int × Value)} {t : SetTable} {Q : Option Value → Shared → Prop} (hh : A.handled = none) (hit : s.heap.IsSetIter I a (.ref T) i n ep) (hT : s.heap.IsTuple T places)
    (ho : s.heap.get? a = some o) (hd : o.data = .set es ep t) (hf : t.fits es.size = true) (hn : es.size = n) (hp : places[i]? = none)
    (hQ : ∀ h', Heap.ExtBut I s.heap h' → Q none { s with heap := h' }) : wpAny (model prog w) A (pyNext (.ref I)) Q E s := by
  obtain ⟨oI, hoI, hcI, hdI⟩ := id hit
  obtain ⟨oT, hoT, _, nT, hdT⟩ := hT
  unfold pyNext
  refine wpAny_bind (wpAny_attempt (wpAny_callSpecial?_slot (name := Str.ofString "__next__") hit.typeIs F.slot_set_iterator_next
    (wpAny_call_entry F.slot_set_iterator_next hit.typeIs F.entry_set_iterator_next ?_ (F.args_set_iterator_next_1 _))))
  unfold Builtin.«set_iterator.__next__»
  show wpAny _ _ (fieldsOf (.ref I) >>= _) _ _ s
  refine wpAny_bind ?_
  unfold fieldsOf
  refine wpAny_bind (wpAny_load hoI ?_)
  rw [hdI]
  refine wpAny_pure ?_
  show wpAny _ _ (setEntries a >>= _) _ _ s
  refine wpAny_bind (wpAny_setEntries_of ho hd hf ?_)
  rw [hn]
  have e0 : (((n : Int)) != ((n : Int))) = false := by simp
  show wpAny _ _ (if ((n : Int) != (n : Int)) = true then _ else _) _ _ s
  rw [e0, if_neg Bool.false_ne_true]
  show wpAny _ _ (seqItems? (.ref T) >>= _) _ _ s
  refine wpAny_bind (wpAny_seqItems hoT hdT ?_)
  simp only [Int.toNat_natCast, hp]
  refine wpAny_bind (wpAny_setField hoI hdI (by simp) ?_)
  have hI1 := Heap.get?_update_self (Obj.mapFields (·.setIfInBounds 0 (rawInt 0))) hoI (Obj.isFreed_of_fields (Obj.data_mapFields hdI _))
  refine wpAny_bind (wpAny_setField hI1 (Obj.data_mapFields hdI _) (by simp) ?_)
  show wpAny _ _ (newExc (.type "StopIteration") [] >>= _) _ _ _
  refine wpAny_bind ?_
  simp only [newExc, newTuple]
  refine wpAny_bind (wpAny_newObj_type ?_ (by size_fits))
  refine wpAny_bind (m := firstArgMember _ _) (wpAny_of_eq (a := Value.none) (by first | rfl | (simp only [firstArgMember]; rfl)) ?_)
  refine wpAny_newObj_type ?_ (by size_fits)
  simp only [raiseNew]
  refine wpAny_bind (wpAny_handled ?_)
  first | rw [show A.in1.handled = none from hh] | rw [hh]
  refine wpAny_bind (wpAny_pure (wpAny_throw ?_))
  refine wpAny_bind (wpAny_isInstance (T := "StopIteration") (b := true) ⟨_, Heap.get?_push_size _ rfl, rfl⟩ isSubtype_stop ?_)
  exact wpAny_pure (hQ _ ((((Heap.SameBut.update ..).trans (Heap.SameBut.update ..)).extBut.push _).push _))
end
end PySem

set_option Elab.async false
set_option linter.all false
set_option maxRecDepth 100000
namespace PySem
namespace F
theorem entry_set_iter : entryFor table "set.__iter__" = some Builtin.«frozenset.__iter__» :=
  entryFor_alias (id' := "frozenset.__iter__") (by kernel_rfl) (by first | rfl | decide +kernel | (unfold String.splitOn; simp +decide [String.splitOnAux])) (by decide +kernel) (by kernel_rfl)
theorem slot_set_iterator_iter : Slot "set_iterator" "__iter__" "set_iterator.__iter__" :=
  .of (owner := "set_iterator") (n := "__iter__") (by rw [typeLookup_type, builtinLookup_eq_fast]; kernel_rfl) (by decide +kernel) (by decide +kernel) (by decide +kernel)
    (by first | exact .inl (by decide +kernel) | exact .inr (by decide +kernel)) (by rw [isSubtype_type]; kernel_rfl)
theorem entry_set_iterator_iter : entryFor table "set_iterator.__iter__" = some Builtin.«dict_keyiterator.__iter__» :=
  entryFor_alias (id' := "dict_keyiterator.__iter__") (by kernel_rfl) (by first | rfl | decide +kernel | (unfold String.splitOn; simp +decide [String.splitOnAux])) (by decide +kernel) (by kernel_rfl)
theorem args_set_iterator_iter_1 (a : Value) : argsOk "set_iterator.__iter__" ⟨[a], []⟩ := by
  unfold argsOk; rw [signature?_of (id := "set_iterator.__iter__") (n := ['_', '_', 'r', 'e', 't', 'i', '_', '_']) (o := ['r', 'o', 't', 'a', 'r', 'e', 't', 'i', '_', 't', 'e', 's']) (by kernel_rfl) owner_set_iterator]; kernel_rfl
end F
section
variable {prog : Program} {w : World} {A : Around} {E : Value → Shared → Prop} {s : Shared}
theorem Heap.IsSetIter.at {h h' : Heap} {I a : Addr} {f : Value} {i n ep : Nat} (x : h.IsSetIter I a f i n ep) (e : ∀ o, h.get? I = some o → h'.get? I = some o) : h'.IsSetIter I a f i n ep := let ⟨o, ho, r⟩ := x; ⟨o, e _ ho, r⟩
/-- how an iterator of the set at a stands: ord is what it yields -/
def SetRun (w : World) (I a T : Addr) (o : Obj) (es : Array (Int × Value)) (ep : Nat) (t : SetTable) (ord : List Value) (i : Nat) (h : Heap) : Prop :=
  h.get? a = some o ∧ ((w.params.followText "set-order" = true ∧ (∃ slot : Nat, h.IsSetIter I a (rawInt slot) i es.size ep) ∧ ord = (pickOrder (w.params.setOrder a ep) es).toList.map (·.2)) ∨
    (w.params.followText "set-order" = false ∧ (!t.plain && decide (es.size > 1)) = false ∧ (∃ slot : Nat, h.IsSetIter I a (rawInt slot) i es.size ep ∧ SetTable.below t.place slot = i) ∧ ord = es.toList.map (·.2)) ∨
    ∃ ps : List Nat, h.IsSetIter I a (.ref T) i es.size ep ∧ h.IsTuple T (ps.map fun (p : Nat) => rawInt p).toArray ∧ ps.Perm (List.range es.size) ∧ ord = ps.map fun p => ((es[p]?).map (·.2)).getD .none)
theorem SetRun.len {I a T : Addr} {o : Obj} {es : Array (Int × Value)} {ep : Nat} {t : SetTable} {ord : List Value} {i : Nat} {h : Heap} (r : SetRun w I a T o es ep t ord i h) : ord.length = es.size := by
  rcases r.2 with ⟨_, _, rfl⟩ | ⟨_, _, _, rfl⟩ | ⟨ps, _, _, hp, rfl⟩
  · rw [List.length_map, (pickOrder_perm _ _).length_eq, Array.length_toList]
  · rw [List.length_map, Array.length_toList]
  · rw [List.length_map, hp.length_eq, List.length_range]
theorem SetRun.perm {I a T : Addr} {o : Obj} {es : Array (Int × Value)} {ep : Nat} {t : SetTable} {ord : List Value} {i : Nat} {h : Heap} (r : SetRun w I a T o es ep t ord i h) : ord.Perm (es.toList.map (·.2)) := by
  rcases r.2 with ⟨_, _, rfl⟩ | ⟨_, _, _, rfl⟩ | ⟨ps, _, _, hp, rfl⟩
  · exact (pickOrder_perm _ _).map _
  · exact .refl _
  · refine (hp.map _).trans ?_
    have e : (List.range es.size).map (fun p => ((es[p]?).map (·.2)).getD Value.none) = es.toList.map (·.2) := by
      apply List.ext_getElem
      · simp
      · intro k h1 h2
        simp at h1
        simp [h1]
    rw [e]
theorem Walks.set (hh : A.handled = none) (I a T : Addr) (haI : a ≠ I) (hTI : T ≠ I) {o : Obj} {es : Array (Int × Value)} {ep : Nat} {t : SetTable} {ord : List Value} (hd : o.data = .set es ep t) (hf : t.fits es.size = true) (Tb : L3.Tab w t) (hord : ord.length = es.size) :
    Walks prog w A I [I, a, T] [I] es.size (fun i v => ord[i]? = some v) (SetRun w I a T o es ep t ord) where
  sub := fun b hb => by simp at hb; simp [hb]
  frame := fun i h h' st hk => by
    obtain ⟨ho, r⟩ := st
    refine ⟨hk a (by simp) _ ho, ?_⟩
    rcases r with ⟨h1, ⟨sl, h2⟩, h3⟩ | ⟨h1, h2, ⟨sl, h3, h4⟩, h5⟩ | ⟨ps, h1, h2, h3, h4⟩
    · exact .inl ⟨h1, ⟨sl, h2.at fun o e => hk I (by simp) o e⟩, h3⟩
    · exact .inr (.inl ⟨h1, h2, ⟨sl, h3.at fun o e => hk I (by simp) o e, h4⟩, h5⟩)
    · exact .inr (.inr ⟨ps, h1.at fun o e => hk I (by simp) o e, h2.at fun o e => hk T (by simp) o e, h3, h4⟩)
  item := fun i s Q E hi st hQ => by
    have hpl : t.place.size = es.size := by
      unfold SetTable.fits at hf
      simp at hf
      exact hf.1
    obtain ⟨ho, r⟩ := st
    have keep : ∀ {h'}, Heap.SameBut I s.heap h' → h'.get? a = some o := fun sb => (sb.2 a haI).trans ho
    rcases r with ⟨h1, ⟨sl, h2⟩, h3⟩ | ⟨h1, h2, ⟨sl, h3, h4⟩, h5⟩ | ⟨ps, h1, h2, h3, h4⟩
    · have hl : (pickOrder (w.params.setOrder a ep) es).size = es.size := by rw [← Array.length_toList, (pickOrder_perm _ _).length_eq, Array.length_toList]
      have hx : (pickOrder (w.params.setOrder a ep) es)[i]? = some (pickOrder (w.params.setOrder a ep) es)[i] := Array.getElem?_eq_getElem (by omega)
      refine set_next_int (x := (pickOrder (w.params.setOrder a ep) es)[i].2) (nxt := sl) h2 ho hd hf rfl (fun Q A E hq => setNext_text ho hd hf h1 (by rw [hx]; exact hq)) fun h' hit' sb => ?_
      refine hQ _ h' s.toks ?_ ⟨keep sb, .inl ⟨h1, ⟨sl, hit'⟩, h3⟩⟩ fun b o hb e => (sb.2 b (fun z => hb (by simp [z]))).trans e
      rw [h3, List.getElem?_map, Array.getElem?_toList, hx]; rfl
    · refine set_next_int (x := es[i].2) (nxt := t.place[i] + 1) h3 ho hd hf rfl (fun Q A E hq => setNext_place ho hd hf Tb h1 h2 h4 i hi (by omega) hq) fun h' hit' sb => ?_
      refine hQ _ h' s.toks ?_ ⟨keep sb, .inr (.inl ⟨h1, h2, ⟨_, hit', L3.below_next Tb.rise (by omega)⟩, h5⟩)⟩ fun b o hb e => (sb.2 b (fun z => hb (by simp [z]))).trans e
      rw [h5, List.getElem?_map, Array.getElem?_toList, Array.getElem?_eq_getElem hi]; rfl
    · have hl : ps.length = es.size := by rw [h3.length_eq, List.length_range]
      have hp : ps[i]? = some ps[i] := List.getElem?_eq_getElem (by omega)
      have hpm : ps[i] < es.size := List.mem_range.mp (h3.mem_iff.mp (List.getElem_mem _))
      refine set_next_drawn (p := ps[i]) (x := es[ps[i]]) h1 h2 ho hd hf rfl (by simp [hp]) (Array.getElem?_eq_getElem hpm) fun h' hit' sb => ?_
      refine hQ _ h' s.toks ?_ ⟨keep sb, .inr (.inr ⟨ps, hit', h2.at fun o e => (sb.2 T hTI).trans e, h3, h4⟩)⟩ fun b o hb e => (sb.2 b (fun z => hb (by simp [z]))).trans e
      rw [h4, List.getElem?_map, hp]
      simp [hpm]
  done := fun s Q E st hQ => by
    have hpl : t.place.size = es.size := by
      unfold SetTable.fits at hf
      simp at hf
      exact hf.1
    obtain ⟨ho, r⟩ := st
    have fin : ∀ {h'}, Heap.ExtBut I s.heap h' → Q none { s with heap := h' } := fun {h'} eb => hQ h' s.toks fun b o hb e => eb b o (fun z => hb (by simp [z])) e
    rcases r with ⟨h1, ⟨sl, h2⟩, h3⟩ | ⟨h1, h2, ⟨sl, h3, h4⟩, h5⟩ | ⟨ps, h1, h2, h3, h4⟩
    · have hl : (pickOrder (w.params.setOrder a ep) es).size = es.size := by rw [← Array.length_toList, (pickOrder_perm _ _).length_eq, Array.length_toList]
      exact set_next_intEnd hh h2 ho hd hf rfl (fun Q A E hq => setNext_text ho hd hf h1 (by rw [Array.getElem?_eq_none (by omega)]; exact hq)) fun h' eb => fin eb
    · exact set_next_intEnd hh h3 ho hd hf rfl (fun Q A E hq => setNext_placeEnd ho hd hf Tb h1 h2 h4 _ hq) fun h' eb => fin eb
    · have hl : ps.length = es.size := by rw [h3.length_eq, List.length_range]
      exact set_next_drawnEnd hh h1 h2 ho hd hf rfl (by simp [hl]) fun h' eb => fin eb
  self := fun i s Q E st hQ => by
    have hT : s.TypeIs (.ref I) "set_iterator" := by
      rcases st.2 with ⟨h1, ⟨sl, h2⟩, h3⟩ | ⟨h1, h2, ⟨sl, h3, h4⟩, h5⟩ | ⟨ps, h1, h2, h3, h4⟩
      · exact h2.typeIs
      · exact h3.typeIs
      · exact h1.typeIs
    refine wpAny_pyIter_slot hT F.slot_set_iterator_iter (wpAny_call_entry F.slot_set_iterator_iter hT F.entry_set_iterator_iter ?_ (F.args_set_iterator_iter_1 _))
    show wpAny _ _ (ret (.ref I)) _ _ s
    exact wpAny_pure ⟨_, rfl, "set_iterator", _, hT, F.slot_set_iterator_next.lookup, hQ⟩
end
end PySem

set_option Elab.async false
set_option linter.all false
set_option maxRecDepth 100000
namespace PySem
section
variable {prog : Program} {w : World} {A : Around} {E : Value → Shared → Prop} {s : Shared}
theorem pyIter_set {a : Addr} {o : Obj} {es : Array (Int × Value)} {ep : Nat} {t : SetTable} {Q : Value → Shared → Prop} (ho : s.heap.get? a = some o) (hex : o.ExactSet) (hd : o.data = .set es ep t) (hf : t.fits es.size = true) (Tb : L3.Tab w t) (hz : es.size ≤ sizeLine)
    (hQ : ∀ h' d I T ord, SetRun w I a T o es ep t ord 0 h' → (∀ b u, s.heap.get? b = some u → h'.get? b = some u) → s.heap.objs.size ≤ I → I < h'.objs.size → (T = a ∨ s.heap.objs.size ≤ T) → T ≠ I → T < h'.objs.size → Q (.ref I) { s with heap := h', drawn := d }) :
    wpAny (model prog w) A (pyIter (.ref a)) Q E s := by
  have hT : s.TypeIs (.ref a) "set" := ⟨o, ho, hex.1⟩
  have hlt : a < s.heap.objs.size := Heap.lt_size ho
  refine wpAny_pyIter_slot hT F.slot_set_iter (wpAny_call_entry F.slot_set_iter hT F.entry_set_iter ?_ (F.args_set_iter_1 _))
  unfold Builtin.«frozenset.__iter__»
  show wpAny _ _ (Builtin.Frozenset.sizeOf a >>= _) _ _ s
  refine wpAny_bind ?_
  unfold Builtin.Frozenset.sizeOf
  refine wpAny_bind (wpAny_setEntries_of ho hd hf (wpAny_pure ?_))
  refine wpAny_bind ?_
  unfold setDrawn
  refine wpAny_bind (wpAny_setState_of ho hd hf ?_)
  dsimp only
  unfold setsByText
  refine wpAny_bind (wpAny_bind (wpAny_askSetting (wpAny_pure (wpAny_pure ?_))))
  dsimp only
  show wpAny _ _ (if (!(w.params.followText "set-order") && (!t.plain && decide (es.size > 1))) = true then _ else _) _ _ s
  cases hbt : w.params.followText "set-order" with
  | true =>
    simp only [Bool.not_true, Bool.false_and, Bool.false_eq_true, if_false]
    refine wpAny_bind (wpAny_pure ?_)
    refine wpAny_bind (wpAny_setEpoch_of ho hd hf ?_)
    refine wpAny_bind (wpAny_newObj_type (wpAny_pure ⟨_, rfl, "set_iterator", _, ⟨_, Heap.get?_push_size _ rfl, rfl⟩, F.slot_set_iterator_next.lookup, ?_⟩))
    have := hQ (s.heap.push { cls := .type "set_iterator", data := .fields #[rawInt 0, rawInt 0, .ref a, rawInt es.size, rawInt ep] }) s.drawn s.heap.objs.size a ((pickOrder (w.params.setOrder a ep) es).toList.map (·.2))
      ⟨Heap.get?_push_of_some _ ho, .inl ⟨hbt, ⟨0, _, Heap.get?_push_size _ rfl, rfl, rfl⟩, rfl⟩⟩ (fun b u e => Heap.get?_push_of_some _ e) (Nat.le_refl _) (by rw [Heap.size_push]; exact Nat.lt_succ_self _) (.inl rfl) (Nat.ne_of_lt hlt) (by rw [Heap.size_push]; exact Nat.lt_succ_of_lt hlt)
    exact this
  | false =>
    cases hdr : (!t.plain && decide (es.size > 1)) with
    | false =>
      simp only [Bool.not_false, Bool.true_and, Bool.false_eq_true, if_false]
      refine wpAny_bind (wpAny_pure ?_)
      refine wpAny_bind (wpAny_setEpoch_of ho hd hf ?_)
      refine wpAny_bind (wpAny_newObj_type (wpAny_pure ⟨_, rfl, "set_iterator", _, ⟨_, Heap.get?_push_size _ rfl, rfl⟩, F.slot_set_iterator_next.lookup, ?_⟩))
      have := hQ (s.heap.push { cls := .type "set_iterator", data := .fields #[rawInt 0, rawInt 0, .ref a, rawInt es.size, rawInt ep] }) s.drawn s.heap.objs.size a (es.toList.map (·.2))
        ⟨Heap.get?_push_of_some _ ho, .inr (.inl ⟨hbt, hdr, ⟨0, ⟨_, Heap.get?_push_size _ rfl, rfl, rfl⟩, L3.below_zero Tb.rise⟩, rfl⟩)⟩ (fun b u e => Heap.get?_push_of_some _ e) (Nat.le_refl _) (by rw [Heap.size_push]; exact Nat.lt_succ_self _) (.inl rfl) (Nat.ne_of_lt hlt) (by rw [Heap.size_push]; exact Nat.lt_succ_of_lt hlt)
      exact this
    | true =>
      simp only [Bool.not_false, Bool.true_and, if_true]
      refine wpAny_bind (wpAny_drawOrder es.size (List.range es.size) s (by simp) fun ps d hp => ?_)
      have hz2 : sizeOk (.seq (ps.map fun (i : Nat) => rawInt i).toArray) := by show (List.toArray _).size ≤ sizeLine; rw [List.size_toArray, List.length_map, hp.length_eq, List.length_range]; exact hz
      refine wpAny_bind (wpAny_newObj_type ?_ hz2)
      have ho1 : (s.heap.push { cls := .type "tuple", data := .seq (ps.map fun (i : Nat) => rawInt i).toArray }).get? a = some o := Heap.get?_push_of_some _ ho
      refine wpAny_bind (wpAny_setEpoch_of (s := { s with heap := s.heap.push { cls := .type "tuple", data := .seq (ps.map fun (i : Nat) => rawInt i).toArray }, drawn := d }) ho1 hd hf ?_)
      refine wpAny_bind (wpAny_newObj_type (wpAny_pure ⟨_, rfl, "set_iterator", _, ⟨_, Heap.get?_push_size _ rfl, rfl⟩, F.slot_set_iterator_next.lookup, ?_⟩))
      have := hQ ((s.heap.push { cls := .type "tuple", data := .seq (ps.map fun (i : Nat) => rawInt i).toArray }).push { cls := .type "set_iterator", data := .fields #[.ref s.heap.objs.size, rawInt 0, .ref a, rawInt es.size, rawInt ep] }) d (s.heap.objs.size + 1) s.heap.objs.size (ps.map fun p => ((es[p]?).map (·.2)).getD .none)
        ⟨Heap.get?_push_of_some _ ho1, .inr (.inr ⟨ps, ⟨_, by rw [show s.heap.objs.size + 1 = (s.heap.push { cls := .type "tuple", data := .seq (ps.map fun (i : Nat) => rawInt i).toArray }).objs.size by rw [Heap.size_push]]; exact Heap.get?_push_size _ rfl, rfl, rfl⟩, ⟨_, Heap.get?_push_of_some _ (Heap.get?_push_size _ rfl), rfl, 0, rfl⟩, hp, rfl⟩)⟩
        (fun b u e => Heap.get?_push_of_some _ (Heap.get?_push_of_some _ e)) (Nat.le_succ _) (by rw [Heap.size_push, Heap.size_push]; exact Nat.lt_succ_self _) (.inr (Nat.le_refl _)) (Nat.ne_of_lt (Nat.lt_succ_self _)) (by rw [Heap.size_push, Heap.size_push]; exact Nat.lt_succ_of_lt (Nat.lt_succ_self _))
      show Q (.ref (s.heap.push _).objs.size) _
      rw [Heap.size_push]
      exact this
end
end PySem

set_option Elab.async false
set_option linter.all false
set_option maxRecDepth 100000
namespace PySem
section
variable {prog : Program} {w : World} {A : Around} {E : Value → Shared → Prop} {s : Shared}
theorem wpAny_ifT {α : Type} {M : Model} {c : Prop} [Decidable c] {x y : Sem α} {Q : α → Shared → Prop} (hc : c) (h : wpAny M A x Q E s) : wpAny M A (if c then x else y) Q E s := by rw [if_pos hc]; exact h
theorem ItemsOf.eq {ord : List Value} {acc : Array Value} {n : Nat} (h : ItemsOf (fun i v => ord[i]? = some v) acc n) (hn : ord.length = n) : acc.toList = ord := by
  apply List.ext_getElem?
  intro i
  by_cases hi : i < acc.size
  · have := h.2 i acc[i] (Array.getElem?_eq_getElem hi)
    rw [this, Array.getElem?_toList, Array.getElem?_eq_getElem hi]
  · rw [List.getElem?_eq_none (by rw [Array.length_toList]; omega), List.getElem?_eq_none (by rw [hn, ← h.1]; omega)]
theorem collect_set {a : Addr} {o : Obj} {es : Array (Int × Value)} {ep : Nat} {t : SetTable} {Q : List Value → Shared → Prop} (hh : A.handled = none) (ho : s.heap.get? a = some o) (hex : o.ExactSet) (hd : o.data = .set es ep t) (hf : t.fits es.size = true) (Tb : L3.Tab w t) (hz : es.size ≤ sizeLine)
    (hQ : ∀ s' vals, (∀ b u, s.heap.get? b = some u → s'.heap.get? b = some u) → s'.gens = s.gens → s'.os = s.os → s.heap.objs.size ≤ s'.heap.objs.size → List.Perm vals (es.toList.map (·.2)) → Q vals s') :
    wpAny (model prog w) A (collect (.ref a)) Q E s := by
  have hlt : a < s.heap.objs.size := Heap.lt_size ho
  unfold collect
  refine wpAny_bind (wpAny_runValue (codeAny_builtin F.entry_proto_collect ?_))
  rw [Around.under_plainId F.plain_proto_collect _]
  show wpAny _ A.in1 (newList [] >>= fun l => again (.builtin "list.__iadd__" ⟨[l, .ref a], []⟩)) _ _ s
  refine wpAny_bind (wpAny_newObj_type ?_)
  refine wpAny_pure ⟨plainId_quiet F.plain_list_iadd _, codeAny_builtin F.entry_list_iadd ?_⟩
  rw [Around.under_plainId F.plain_list_iadd _]
  have ho1 : (s.heap.push { cls := .type "list", data := .seq ([] : List Value).toArray }).get? a = some o := Heap.get?_push_of_some _ ho
  have hS1 : (s.heap.push { cls := .type "list", data := .seq ([] : List Value).toArray }).get? s.heap.objs.size = some { cls := .type "list", data := .seq ([] : List Value).toArray } := Heap.get?_push_size _ rfl
  have hz1 : (s.heap.push { cls := .type "list", data := .seq ([] : List Value).toArray }).objs.size = s.heap.objs.size + 1 := Heap.size_push ..
  have hk1 : ∀ b u, s.heap.get? b = some u → (s.heap.push { cls := .type "list", data := .seq ([] : List Value).toArray }).get? b = some u := fun b u e => Heap.get?_push_of_some _ e
  generalize s.heap.push { cls := .type "list", data := .seq ([] : List Value).toArray } = h1 at ho1 hS1 hz1 hk1
  show wpAny _ A.in1 (Builtin.List.listExtendWith (.ref s.heap.objs.size) (.ref a) (.ref s.heap.objs.size)) _ _ { s with heap := h1 }
  unfold Builtin.List.listExtendWith
  have hT1 : Shared.TypeIs { s with heap := h1 } (.ref a) "set" := ⟨o, ho1, hex.1⟩
  refine wpAny_bind (wpAny_typeOf hT1 ?_)
  have g1 : Builtin.List.listSameRef (.ref s.heap.objs.size) (.ref a) = false := by simp [Builtin.List.listSameRef]; exact fun z => Nat.lt_irrefl _ (z ▸ hlt)
  have g2 : (Value.type "set" == Value.type "list") = false := by decide
  have g3 : (Value.type "set" == Value.type "tuple") = false := by decide
  simp only [g1, g2, g3, Bool.or_false, Bool.false_eq_true, if_false]
  refine wpAny_bind (pyIter_set (s := { s with heap := h1 }) ho1 hex hd hf Tb hz fun h' d I T ord run keep hI1 hI2 hT2 hTI hT3 => ?_)
  refine wpAny_bind (wpAny_holding ?_)
  have ho2 := keep a o ho1
  have hT2' : Shared.TypeIs { s with heap := h', drawn := d } (.ref a) "set" := ⟨o, ho2, hex.1⟩
  unfold Builtin.List.listLengthHint
  refine wpAny_bind (wpAny_specialOf hT2' F.slot_set_len.lookup ?_)
  have hsp : splitId "set.__len__" = some ("set", "__len__") := by decide +kernel
  simp only [hsp]
  refine wpAny_bind (wpAny_isInstance hT2' sub_set_self ?_)
  simp only [Bool.not_true, Bool.false_eq_true, if_false]
  refine wpAny_ifT (by decide +kernel) ?_
  refine wpAny_bind (wpAny_typeOf hT2' ?_)
  refine wpAny_pure ?_
  show wpAny _ A.in1 (rule "list.extend.makes-room" >>= fun _ => Builtin.List.listTouch (.ref s.heap.objs.size) >>= fun _ =>
    again (.builtin "list.extend.loop" ⟨[.ref s.heap.objs.size, .ref I, .ref s.heap.objs.size], []⟩)) _ _ _
  refine wpAny_bind (wpAny_rule ?_)
  have hS₁ := keep _ _ hS1
  refine wpAny_bind ?_
  show wpAny _ A.in1 (updateSeq s.heap.objs.size (·.push .none) >>= fun _ => updateSeq s.heap.objs.size (·.pop)) _ _ _
  refine wpAny_bind (wpAny_updateSeq hS₁ rfl ?_)
  have hS₂ := Heap.get?_update_self (Obj.mapSeq (·.push Value.none)) hS₁ rfl
  refine wpAny_updateSeq hS₂ rfl ?_
  have hS₃ := Heap.get?_update_self (Obj.mapSeq (·.pop)) hS₂ rfl
  have oth : ∀ b o, b ≠ s.heap.objs.size → h'.get? b = some o →
      ((h'.update s.heap.objs.size (Obj.mapSeq (·.push Value.none))).update s.heap.objs.size (Obj.mapSeq (·.pop))).get? b = some o :=
    fun b o hb e => (Heap.get?_update_other _ _ (Ne.symm hb)).trans ((Heap.get?_update_other _ _ (Ne.symm hb)).trans e)
  have hIS : I ≠ s.heap.objs.size := fun z => by
    have h2 : h1.objs.size ≤ I := hI1
    rw [hz1, z] at h2
    exact Nat.not_succ_le_self _ h2
  have haS : a ≠ s.heap.objs.size := Nat.ne_of_lt hlt
  have hTS : T ≠ s.heap.objs.size := by
    rcases hT2 with z | z
    · rw [z]; exact haS
    · have z : h1.objs.size ≤ T := z
      rw [hz1] at z
      exact fun q => by rw [q] at z; exact Nat.not_succ_le_self _ z
  have haI : a ≠ I := fun z => by
    have h2 : h1.objs.size ≤ I := hI1
    rw [hz1, ← z] at h2
    exact Nat.lt_irrefl _ (Nat.lt_of_lt_of_le hlt (Nat.le_trans (Nat.le_succ _) h2))
  have hSf : s.heap.objs.size ∉ [I, a, T] := by
    simp only [List.mem_cons, List.not_mem_nil, or_false, not_or]
    exact ⟨Ne.symm hIS, Ne.symm haS, Ne.symm hTS⟩
  have W := (Walks.set (prog := prog) (w := w) (A := A.in1) hh I a T haI hTI hd hf Tb run.len).toS
  refine wpAny_pure ⟨plainId_quiet F.plain_extend_loop _, codeAny_extend_loopS W hz _ hSf _ es.size 0 _ _ _ rfl (Nat.zero_le _)
    (W.frame 0 ({ s with heap := h', drawn := d } : Shared) _ s.toks run (Nat.le_refl _) fun b hb o e => oth b o (fun h => hSf (h ▸ hb)) e) hS₃ (ItemsOf.nil _) fun s' acc' c' hm hS' hacc => ?_⟩
  show wpAny _ A (load s.heap.objs.size >>= _) _ _ s'
  refine wpAny_bind (wpAny_load hS' ?_)
  refine wpAny_pure (hQ s' _ (fun b u e => ?_) hm.gens hm.os (Nat.le_of_lt (Heap.lt_size hS')) ?_)
  · have hb : b < s.heap.objs.size := Heap.lt_size e
    have hbI : b ≠ I := fun z => by
      have h2 : h1.objs.size ≤ I := hI1
      rw [hz1, ← z] at h2
      exact Nat.lt_irrefl _ (Nat.lt_of_lt_of_le hb (Nat.le_trans (Nat.le_succ _) h2))
    have hbS : b ≠ s.heap.objs.size := Nat.ne_of_lt hb
    refine hm.heap b u ?_ (oth b u hbS (keep b u (hk1 b u e)))
    simp only [List.mem_cons, List.not_mem_nil, or_false, not_or]
    exact ⟨hbS, hbI⟩
  · show List.Perm acc'.toList _
    rw [hacc.eq run.len]
    exact run.perm
end
end PySem

set_option Elab.async false
set_option linter.all false
set_option maxRecDepth 100000
namespace L3
open PySem PySem.Spec PyProof.Rows L2
/-! ### counting -/
theorem perm_of {σ : List Int} : ∀ {ns : List Int}, σ.Nodup → (∀ k, k ∈ σ → k ∈ ns) → ns.length = σ.length → ns.Perm σ := by
  induction σ with
  | nil => intro ns _ _ hl; rw [List.length_eq_zero_iff.mp hl]
  | cons k σ ih =>
    intro ns hn hs hl
    rw [List.nodup_cons] at hn
    have hk := hs k (by simp)
    refine (List.perm_cons_erase hk).trans (List.Perm.cons k (ih hn.2 (fun j hj => ?_) ?_))
    · exact (List.mem_erase_of_ne (fun z : j = k => hn.1 (z ▸ hj))).mpr (hs j (List.mem_cons_of_mem _ hj))
    · rw [List.length_erase_of_mem hk, hl]; rfl
theorem ints_perm {ns : List Int} : ∀ {vs us : List Value}, List.Perm us vs → IntsAre vs ns → ∃ ms : List Int, ms.Perm ns ∧ IntsAre us ms := by
  intro vs us h
  induction h generalizing ns with
  | nil => intro hi; exact ⟨ns, .refl _, hi⟩
  | cons x _ ih =>
    intro hi
    cases hi with
    | cons n t hr => obtain ⟨ms, h1, h2⟩ := ih hr; exact ⟨n :: ms, h1.cons n, .cons n t h2⟩
  | swap x y l =>
    intro hi
    cases hi with
    | cons n t hr =>
      cases hr with
      | cons n2 t2 hr => exact ⟨n2 :: n :: _, List.Perm.swap _ _ _, .cons n2 t2 (.cons n t hr)⟩
  | trans _ _ ih1 ih2 =>
    intro hi
    obtain ⟨ms, h1, h2⟩ := ih2 hi
    obtain ⟨ks, h3, h4⟩ := ih1 h2
    exact ⟨ks, h3.trans h1, h4⟩
theorem elems_ints {prog : Program} {w : World} : ∀ {es : List (Int × Value)}, ElemsOf (intKind prog w) es → ∃ ns : List Int, IntsAre (es.map (·.2)) ns ∧ ∀ k, k ∈ ns ↔ ∃ e ∈ es, (intKind prog w).is k e.2 = true
  | [], _ => ⟨[], .nil, fun k => by simp⟩
  | e :: es, h => by
    obtain ⟨ns, h1, h2⟩ := elems_ints (es := es) h.tail
    obtain ⟨⟨k, hk, _⟩, _⟩ := h.head
    obtain ⟨t, ht⟩ := Value.isInt_shape hk
    refine ⟨k :: ns, by rw [List.map_cons, ht]; exact .cons k t h1, fun j => ?_⟩
    rw [List.mem_cons, h2 j]
    constructor
    · rintro (rfl | ⟨e', he, hi⟩)
      · exact ⟨e, by simp, hk⟩
      · exact ⟨e', List.mem_cons_of_mem _ he, hi⟩
    · rintro ⟨e', he, hi⟩
      rcases List.mem_cons.mp he with rfl | he
      · exact .inl ((intKind prog w).inj e'.2 j k hi hk)
      · exact .inr ⟨e', he, hi⟩
section
variable {prog : Program} {w : World} {A : Around} {E : Value → Shared → Prop} {s : Shared}
/-- collect of a set of whole numbers -/
theorem collect_setT {a : Addr} {σ : List Int} {Q : List Value → Shared → Prop} (hh : A.handled = none) (hS : s.heap.SetT (intKind prog w) a (fun k => σ.any (· == k)) σ.length) (hnd : σ.Nodup)
    (hQ : ∀ s' vals ns, (∀ b u, s.heap.get? b = some u → s'.heap.get? b = some u) → s'.gens = s.gens → s'.os = s.os → s.heap.objs.size ≤ s'.heap.objs.size → IntsAre vals ns → ns.Perm σ → Q vals s') : wpAny (model prog w) A (collect (.ref a)) Q E s := by
  obtain ⟨o, es, ep, t, ho, hex, hd, hel, hmem, hb, hf, hn, Tb⟩ := hS
  refine collect_set hh ho hex hd hf Tb (fits_of_scanBound hb) fun s' vals k1 k2 k3 k4 hp => ?_
  obtain ⟨ns, h1, h2⟩ := elems_ints hel
  obtain ⟨ms, h3, h4⟩ := ints_perm hp h1
  refine hQ s' vals ms k1 k2 k3 k4 h4 (h3.trans (perm_of hnd (fun k hk => ?_) ?_))
  · rw [h2 k, ← hmem k]
    simp only [List.any_eq_true, beq_iff_eq]
    exact ⟨k, hk, rfl⟩
  · rw [← h1.length, List.length_map, Array.length_toList, hn]
/-- sorted of it -/
theorem sorted_setT {a : Addr} {σ : List Int} {Q : Value → Shared → Prop} (hh : A.handled = none) (hS : s.heap.SetT (intKind prog w) a (fun k => σ.any (· == k)) σ.length) (hnd : σ.Nodup) (h64 : σ.length < 64)
    (h : ∀ (s2 : Shared) (L : Addr) (out : List Value) (ns' : List Int) (n : Nat), (∀ b u, s.heap.get? b = some u → s2.heap.get? b = some u) → s2.gens = s.gens → s2.os = s.os → s.heap.objs.size ≤ L → s2.heap.get? L = some { cls := .type "list", data := .seq out.toArray n } → IntsAre out ns' → ns'.Perm σ → ns'.Pairwise (· ≤ ·) → Q (.ref L) s2) :
    wpAny (model prog w) A (call (.builtin "sorted") [.ref a]) Q E s := by
  refine Calls.call_function_entry kind_sorted plain_sorted entry_sorted (args_sorted1 _) ?_
  unfold Builtin.«sorted»
  refine wpAny_bind (m := checkCount "sorted" 1 1 _) (wpAny_pure ?_)
  refine wpAny_bind (collect_setT (A := A.in1) hh hS hnd fun s1 vals ns k1 k2 k3 hle hi hp => ?_)
  have hl64 : vals.length < 64 := by rw [hi.length, hp.length_eq]; exact h64
  refine wpAny_bind (wpAny_newList ?_ (by rw [sizeLine_eq]; omega))
  have hoL : (s1.heap.push (seqObj "list" vals.toArray 0)).get? s1.heap.objs.size = some (seqObj "list" vals.toArray 0) := Heap.get?_push_size _ rfl
  refine wpAny_bind (wpAny_holding (wpAny_call_entry slot_list_sort ⟨_, hoL, rfl⟩ entry_list_sort (list_sort_tree hoL hi hl64 fun out ns' a1 a2 a3 => ⟨_, rfl, ?_⟩) (args_list_sort _)))
  obtain ⟨ep, he'⟩ := sortedHeap_at (vs := vals) (out := out) hoL
  refine wpAny_pure ⟨_, rfl, h _ s1.heap.objs.size out.toList ns' ep (fun b u e => ?_) k2 k3 hle he' a1 (a2.trans hp) a3⟩
  have hb := k1 b u e
  rw [sortedHeap_old (Nat.ne_of_lt (Heap.lt_size hb)) (by rw [Heap.size_push]; exact Nat.lt_succ_of_lt (Heap.lt_size hb))]
  exact Heap.get?_push_of_some _ hb
end
end L3

set_option Elab.async false
set_option linter.all false
set_option maxRecDepth 100000
namespace PySem
namespace F
theorem sub_tuple_set9 : isSubtype (.type "tuple") (.type "set") = pure false := by rw [isSubtype_type]; kernel_rfl
theorem sub_tuple_frozenset9 : isSubtype (.type "tuple") (.type "frozenset") = pure false := by rw [isSubtype_type]; kernel_rfl
end F
section
variable {prog : Program} {w : World} {A : Around} {E : Value → Shared → Prop} {s : Shared}
set_option maxRecDepth 100000 in
set_option maxHeartbeats 3200000 in
theorem call_setTT {l : Addr} {items : Array Value} {ns : List Int} {Q : Value → Shared → Prop}
    (hh : A.handled = none) (hl : s.heap.IsTuple l items) (hi : PyProof.Rows.IntsAre items.toList ns) (hb : items.size + 1 < scanBound)
    (h : ∀ (h' : Heap) (tk : Nat), h'.SetT (intKind prog w) s.heap.objs.size (fun k' => (PyProof.Rows.firstMet (fun i => ns.getD i 0) items.size).any (· == k')) (PyProof.Rows.firstMet (fun i => ns.getD i 0) items.size).length →
      (∀ b o, b < s.heap.objs.size → s.heap.get? b = some o → h'.get? b = some o) → Q (.ref s.heap.objs.size) { s with heap := h', toks := tk }) :
    wpAny (model prog w) A (call (.type "set") [.ref l]) Q E s := by
  obtain ⟨c, tl, hmro⟩ := F.called_set.mro
  have hmade := F.called_set.made
  have hsub := F.called_set.sub
  refine wpAny_call (codeAny_of_tree ?_)
  show wpAny _ _ (callAny (.type "set") _) _ _ _
  refine wpAny_pure ⟨Code.quiet_builtin _ (by decide +kernel), codeAny_builtin F.entry_type_call ?_⟩
  rw [Around.under_plain (weight_type_call_type "set" [.ref l] []) rfl]
  have h1 := F.called_set.notType
  have h2 := F.called_set.canCreate
  have hct := F.typeCall_set_1 (.ref l)
  repeat (any_goals (first | assumption | wp_step))

  refine codeAny_mono (code_set_newT (.ref l) (E := E) (Q₁ := fun obj s₁ => ∃ led : Bool, led = !(w.params.followText "set-order") ∧ obj = .ref s.heap.objs.size ∧ s₁ = { s with heap := s.heap.push { cls := .type "set", dict := none, data := .set #[] 0 (.fresh 0 0 led) } }) fun led hled => ⟨led, hled, rfl, rfl⟩) fun r s₁ hr => ?_
  cases r with
  | error e => exact hr
  | ok fl =>
    cases fl with
    | ret obj =>
      obtain ⟨led, hled, rfl, rfl⟩ := hr
      have hS : (s.heap.push { cls := .type "set", dict := none, data := .set #[] 0 (.fresh 0 0 led) }).get? s.heap.objs.size = some { cls := .type "set", dict := none, data := .set #[] 0 (.fresh 0 0 led) } := Heap.get?_push_size _ rfl
      have hT : Shared.TypeIs { s with heap := s.heap.push { cls := .type "set", dict := none, data := .set #[] 0 (.fresh 0 0 led) } } (.ref s.heap.objs.size) "set" := ⟨_, hS, rfl⟩
      have hli := F.called_set.init.lookup
      have hbi := F.called_set.init.bind (.ref s.heap.objs.size)
      repeat (any_goals (first | assumption | wp_step))

      refine codeAny_mono (codeAny_call_builtin (R := wants (fun r s₂ => r = .none ∧ ∃ h' tk, s₂ = { s with heap := h', toks := tk } ∧
          h'.SetT (intKind prog w) s.heap.objs.size (fun k' => (PyProof.Rows.firstMet (fun i => ns.getD i 0) items.size).any (· == k')) (PyProof.Rows.firstMet (fun i => ns.getD i 0) items.size).length ∧
          (∀ b o, b < s.heap.objs.size → s.heap.get? b = some o → h'.get? b = some o)) E) F.called_set.init.plain F.entry_set_init (check_set_init_1 hT ?_)) fun r₂ s₂ hr₂ => ?_
      · obtain ⟨ol, hol, hcl, nl, hdl⟩ := hl
        obtain ⟨ocls, odict, odata, oslots⟩ := ol
        simp only at hcl hdl
        subst hcl; subst hdl
        have hol' : (s.heap.push { cls := .type "set", dict := none, data := .set #[] 0 (.fresh 0 0 led) }).get? l = some { cls := .type "tuple", dict := odict, data := .seq items nl, slots := oslots } := Heap.get?_push_of_some _ hol
        have hsls := F.sub_tuple_set9
        have hslf := F.sub_tuple_frozenset9
        have hne : (Value.type "tuple" == Value.type "dict") = false := by decide
        have hl1 : (s.heap.push { cls := .type "set", dict := none, data := .set #[] 0 (.fresh 0 0 led) }).IsTuple l items := ⟨_, hol', rfl, nl, rfl⟩
        unfold Builtin.«set.__init__» noKeywords Builtin.Frozenset.updateFrom
        generalize hPI : pyIter = PI
        wp_walk
        subst hPI

        refine wpAny_pyIter_tuple hl1 ?_
        refine wpAny_bind (wpAny_runValue ?_)
        have hlS : l < s.heap.objs.size := Heap.lt_size hol
        have hh3 : A.in1.in1.in1.handled = none := by simp [hh]
        have hneI : l ≠ (s.heap.push { cls := .type "set", dict := none, data := .set #[] 0 (.fresh 0 0 led) }).objs.size := by
          rw [Heap.size_push]; exact Nat.ne_of_lt (Nat.lt_succ_of_lt hlS)
        have hSf : s.heap.objs.size ∉ [(s.heap.push { cls := .type "set", dict := none, data := .set #[] 0 (.fresh 0 0 led) }).objs.size, l] := by
          rw [Heap.size_push]; simp only [List.mem_cons, List.mem_singleton, List.not_mem_nil, or_false, not_or]
          exact ⟨Nat.ne_of_lt (Nat.lt_succ_self _), Nat.ne_of_gt hlS⟩
        have hval : ∀ (i : Nat) (v : Value), items[i]? = some v → ∃ t, v = .int ((fun i => ns.getD i 0) i) t := fun i v hv =>
          PyProof.Rows.IntsAre.int_at hi i v (by rw [Array.getElem?_toList]; exact hv)
        refine PyProof.Rows.set_update_loopT ((Walks.tuple hh3 _ l hneI items).toS) s.heap.objs.size
          hSf (fun i => ns.getD i 0) hval hb (items.size - 0) 0 _ (by omega) (Nat.zero_le _)
          ⟨⟨_, Heap.get?_push_size _ rfl, rfl, rfl⟩, (hl1.push _)⟩ ?hS0 ?hR
        case hS0 =>
          have hget : ((s.heap.push { cls := .type "set", dict := none, data := .set #[] 0 (.fresh 0 0 led) }).push { cls := .type "tuple_iterator", data := .fields #[.ref l, .int 0 0] }).get? s.heap.objs.size
              = some { cls := .type "set", dict := none, data := .set #[] 0 (.fresh 0 0 led) } := Heap.get?_push_of_some _ hS
          exact ⟨_, #[], 0, _, hget, ⟨rfl, rfl, rfl⟩, rfl, fun e he => by simp at he, fun k => by simp [PyProof.Rows.firstMet], by decide, rfl, rfl, by rw [hled]; exact L3.fresh_tab⟩
        case hR =>
          intro s' hm hS'
          obtain ⟨h', g', d', tk', os'⟩ := s'
          have eg : g' = s.gens := hm.gens
          have ed : d' = s.drawn := hm.drawn
          have eo : os' = s.os := hm.os
          subst eg; subst ed; subst eo
          show wpAny _ _ _ _ _ _
          refine wpAny_pure ?_
          show wpAny _ _ (ret Value.none) _ _ _
          refine wpAny_pure ⟨rfl, h', tk', rfl, hS', fun b o hb e => ?_⟩
          have hb1 : b ≠ s.heap.objs.size := Nat.ne_of_lt hb
          have hb2 : b ≠ (s.heap.push { cls := .type "set", dict := none, data := .set #[] 0 (.fresh 0 0 led) }).objs.size := by
            rw [Heap.size_push]; exact Nat.ne_of_lt (Nat.lt_succ_of_lt hb)
          exact hm.heap b o (by simp only [List.mem_cons, List.mem_singleton, List.not_mem_nil, or_false, not_or]; exact ⟨hb1, hb2⟩) (Heap.get?_push_of_some _ (Heap.get?_push_of_some _ e))

      · cases r₂ with
        | error e => exact hr₂
        | ok fl₂ =>
          cases fl₂ with
          | ret r =>
            obtain ⟨rfl, h', tk, rfl, hS', hk'⟩ := hr₂
            repeat (any_goals (first | assumption | wp_step))
            exact h _ _ hS' hk'
          | _ => exact hr₂.elim
    | _ => exact hr.elim
end
end PySem

set_option Elab.async false
set_option linter.all false
set_option maxRecDepth 100000
namespace L2
open PySem PySem.Spec PyProof.Rows
theorem Inv.drawn {X : Cx} {pins : List (Addr × Obj)} {σ : List (Option V)} {H : Hp} {s : Shared} (I : Inv X pins σ H s) (d : Drawn) : Inv X pins σ H { s with drawn := d } :=
  ⟨I.ok, I.os, I.bare, I.base, I.loc, I.cell, I.free, I.freeC, I.pin, I.hok, I.len⟩
/-- without twice, as first met -/
def dedZ (ns : List Int) : List Int := ns.foldl step_dedup []
theorem ded_nodup_aux : ∀ (ns σ : List Int), σ.Nodup → (ns.foldl step_dedup σ).Nodup
  | [], σ, h => h
  | n :: ns, σ, h => by
    rw [List.foldl_cons]
    refine ded_nodup_aux ns _ ?_
    unfold step_dedup
    split
    · exact h
    · rename_i hn
      rw [List.nodup_append]
      refine ⟨h, by simp, fun a ha b hb => ?_⟩
      rw [List.mem_singleton.mp hb]
      rintro rfl
      exact hn (List.any_eq_true.mpr ⟨a, ha, by simp⟩)
theorem ded_nodup (ns : List Int) : (dedZ ns).Nodup := ded_nodup_aux ns [] List.nodup_nil
theorem firstMet_ded (ns : List Int) : firstMet (fun i => ns.getD i 0) ns.length = dedZ ns := by
  unfold firstMet dedZ
  have e : (List.range ns.length).map (fun i => ns.getD i 0) = ns := by
    apply List.ext_getElem
    · simp
    · intro i h1 h2
      simp at h1
      simp [h1]
  rw [e]
theorem boot_sorted9 : bootBuiltins "sorted" = some (.builtin "sorted") := by decide +kernel
theorem boot_set9 : bootBuiltins "set" = some (.type "set") := by decide +kernel
def tSS (K : PySem.W.Frag) (ta : TA) : TE := fun σ H Q => ta σ H fun vs H1 => ∃ l ns, vs = [.ref l] ∧ (SqL K H1 l (ns.map V.int) ∨ SqT K H1 l (ns.map V.int)) ∧ ns.length + 1 < scanBound ∧ (dedZ ns).length < 64 ∧
  ∀ (ns' : List Int) (p : Addr), ns'.Perm (dedZ ns) → ns'.Pairwise (· ≤ ·) → H1 p = none → Q (.ref p) (upd H1 p (.lst (ns'.map V.int)))
theorem pe_sortedSet {X : Cx} {e : Expr} {ta : TA} {p p2 pos pos2 : Pos} (hc : X.calm = true) (hg : Gl X "sorted") (hm : X.mg "sorted" = none) (hg2 : Gl X "set") (hm2 : X.mg "set" = none) (ha : PA X [e] ta)
    (hs : starEach [.Call (.Name "set" p2) [e] [] pos2] X.env = [(false, eval (.Call (.Name "set" p2) [e] [] pos2) X.env)] := by rfl) (hs2 : starEach [e] X.env = [(false, eval e X.env)] := by rfl) :
    PE X (.Call (.Name "sorted" p) [.Call (.Name "set" p2) [e] [] pos2] [] pos) (tSS X.K ta) := by
  intro pins s σ H Q I h
  refine wpAny_Call_Name_kw (ld_blt I hg hm boot_sorted9 ?_ (by decide) (by decide))
  refine PyProof.Rows.callWith_builtin1 ?_ hs rfl
  rw [hs]
  show wpAny _ _ (spliced ((false, eval (.Call (.Name "set" p2) [e] [] pos2) X.env) :: [])) _ _ s
  refine Calls.spliced_cons ?_
  refine wpAny_Call_Name_kw (ld_blt I hg2 hm2 boot_set9 ?_ (by decide) (by decide))
  refine PyProof.Rows.callWith_type1 (thn (ha pos2 pins s σ H _ I h) fun us s1 ⟨vs, H1, I1, r1, l, ns, ex, hq, hb, h64, q⟩ => ?_) hs2 rfl
  subst ex
  rw [Vals.ref1 r1]
  have fin : ∀ (h' : Heap) (tk : Nat), h'.SetT (intKind X.prog X.w) s1.heap.objs.size (fun k' => (dedZ ns).any (· == k')) (dedZ ns).length → (∀ b o, b < s1.heap.objs.size → s1.heap.get? b = some o → h'.get? b = some o) →
      wpAny (model X.prog X.w) X.A (spliced []) (fun vs s' => wpAny (model X.prog X.w) X.A (call (.builtin "sorted") (.ref s1.heap.objs.size :: vs)) (EP X pins σ Q) X.xe s') X.xe { s1 with heap := h', toks := tk } := by
    intro h' tk hS hk
    have I2 : Inv X pins σ H1 { s1 with heap := h', toks := tk } := I1.kept (t' := tk) fun b o e => hk b o (Heap.lt_size e) e
    refine Calls.spliced_nil ?_
    refine L3.sorted_setT (s := { s1 with heap := h', toks := tk }) (I1.ok.hd hc) hS (ded_nodup ns) h64 fun s2 L out ns' n k1 k2 k3 hL he hi hp hs => ?_
    have hlen : (ns'.map V.int).length ≤ sizeLine := by rw [List.length_map, hp.length_eq]; exact small64 h64
    have I3 := (I2.laid (h' := s2.heap) (t' := s2.toks) (o := .lst (ns'.map V.int)) k1 hL ⟨hlen, out, n, vals_of_ints hi, he⟩).drawn s2.drawn
    obtain ⟨hp2, g2, d2, tk2, os2⟩ := s2
    have k2 : g2 = s1.gens := k2
    have k3 : os2 = s1.os := k3
    subst k2 k3
    exact ⟨.ref L, _, I3, rfl, q ns' L hp hs (I2.hok.fresh hL)⟩
  rcases hq with hq | hq
  · obtain ⟨its, rv, pl, hz⟩ := I1.list hq
    have hl : its.length = ns.length := by rw [← rv.length, List.length_map]
    have hsz : its.toArray.size = ns.length := by rw [List.size_toArray, hl]
    refine call_setT (items := its.toArray) (ns := ns) (I1.ok.hd hc) pl.isList (by simpa using rv.ints) (by rw [hsz]; exact hb) fun h' tk hS hk => ?_
    rw [hsz, firstMet_ded] at hS
    exact fin h' tk hS hk
  · obtain ⟨its, rv, pl, hz⟩ := I1.tuple hq
    have hl : its.length = ns.length := by rw [← rv.length, List.length_map]
    have hsz : its.toArray.size = ns.length := by rw [List.size_toArray, hl]
    refine call_setTT (items := its.toArray) (ns := ns) (I1.ok.hd hc) pl (by simpa using rv.ints) (by rw [hsz]; exact hb) fun h' tk hS hk => ?_
    rw [hsz, firstMet_ded] at hS
    exact fin h' tk hS hk
end L2

set_option Elab.async false
set_option linter.all false
set_option maxRecDepth 100000
namespace L3
open PySem PySem.Spec PyProof.Rows L2
/-! ### sorted -/
def srt (l : List Int) : List Int := l.mergeSort (fun a b => decide (a ≤ b))
theorem eq_of_sorted : ∀ {xs ys : List Int}, xs.Perm ys → xs.Pairwise (· ≤ ·) → ys.Pairwise (· ≤ ·) → xs = ys
  | [], ys, h, _, _ => by rw [List.nil_perm.mp h]
  | x :: xs, [], h, _, _ => absurd h.length_eq (by simp)
  | x :: xs, y :: ys, h, h1, h2 => by
    rw [List.pairwise_cons] at h1 h2
    have hx : x ∈ y :: ys := h.mem_iff.mp (by simp)
    have hy : y ∈ x :: xs := h.mem_iff.mpr (by simp)
    have e : x = y := by
      rcases List.mem_cons.mp hx with rfl | hx
      · rfl
      · rcases List.mem_cons.mp hy with rfl | hy
        · rfl
        · have a1 := h2.1 x hx
          have a2 := h1.1 y hy
          omega
    subst e
    rw [eq_of_sorted ((List.perm_cons x).mp h) h1.2 h2.2]
theorem srt_perm (l : List Int) : (srt l).Perm l := List.mergeSort_perm _ _
theorem srt_sorted (l : List Int) : (srt l).Pairwise (· ≤ ·) := by
  have := List.pairwise_mergeSort (le := fun a b : Int => decide (a ≤ b)) (by intro a b c; simp; omega) (by intro a b; simp; omega) l
  simpa [srt] using this
theorem eq_srt {l ns : List Int} (h : ns.Perm l) (hs : ns.Pairwise (· ≤ ·)) : ns = srt l := eq_of_sorted (h.trans (srt_perm l).symm) hs (srt_sorted l)
section
variable {X : Cx}
def sortedD (x : D) (m : M) : Option (D × M) := (lstD x m).bind fun ds => (intsD ds).bind fun ns => if ns.length < 64 then some (.ref m.length, m ++ [.lst ((srt ns).map D.int)]) else none
theorem lc_sorted : LC X (.builtin "sorted") (f1 sortedD) := lc_one cr_sorted fun x m d m' ι H v Q e rm rx k => by
  unfold sortedD at e
  obtain ⟨ds, e1, e⟩ := Option.bind_eq_some_iff.mp e
  obtain ⟨ns, e2, e⟩ := Option.bind_eq_some_iff.mp e
  split at e
  · rename_i hz
    cases e
    obtain ⟨n, a, vs, rfl, hi, rfl, h, t⟩ := lst_of rm rx e1
    rw [ints_of e2] at t
    rw [t.ints] at h
    refine ⟨a, ns, rfl, .of h, hz, fun ns' p hp hs hn => ?_⟩
    rw [eq_srt hp hs]
    exact ko_lst rm (.ofInts _) k p hn
  · cases e
def cSS (c : CE) : CE := fun ρ m => (c ρ m).bind fun p => (itemsD p.1 p.2).bind fun ds => (intsD ds).bind fun ns => if ns.length + 1 < scanBound ∧ (dedZ ns).length < 64 then some (.ref p.2.length, p.2 ++ [.lst ((srt (dedZ ns)).map D.int)]) else none
theorem le_sortedSet {e : Expr} {c : CE} {p p2 pos pos2 : Pos} (hc : X.calm = true) (hg : Gl X "sorted") (hm : X.mg "sorted" = none) (hg2 : Gl X "set") (hm2 : X.mg "set" = none) (ha : LE X e c)
    (hs : starEach [.Call (.Name "set" p2) [e] [] pos2] X.env = [(false, eval (.Call (.Name "set" p2) [e] [] pos2) X.env)] := by rfl) (hs2 : starEach [e] X.env = [(false, eval e X.env)] := by rfl) :
    LE X (.Call (.Name "sorted" p) [.Call (.Name "set" p2) [e] [] pos2] [] pos) (cSS c) := by
  obtain ⟨t, pt, ht⟩ := ha.ex
  refine ⟨_, pe_sortedSet hc hg hm hg2 hm2 (pa_cons pt pa_nil hs2) hs hs2, fun ρ m d m' ι σ H Q e r s k => ?_⟩
  unfold cSS at e
  obtain ⟨⟨x, m1⟩, e1, e⟩ := Option.bind_eq_some_iff.mp e
  obtain ⟨ds, e2, e⟩ := Option.bind_eq_some_iff.mp e
  obtain ⟨ns, e3, e⟩ := Option.bind_eq_some_iff.mp e
  split at e
  · rename_i hz
    cases e
    refine ht ρ m x m1 ι σ H _ e1 r s fun ι1 H1 v g1 r1 h1 => ?_
    obtain ⟨a, vs, rfl, h, t⟩ := items_of r1 h1 e2
    rw [ints_of e3] at t
    rw [t.ints] at h
    refine ⟨a, ns, rfl, h, hz.1, hz.2, fun ns' p hp hs hn => ?_⟩
    rw [eq_srt hp hs]
    exact ko_lst r1 (.ofInts _) (fun ι' H' v g r h => k ι' H' v (g1.trans g) r h) p hn
  · cases e
/-! ### max, enumerate -/
def max2D : F1 := fun ds m => match ds with
  | [.int i, .int j] => some (.int (if j > i then j else i), m)
  | _ => none
def maxLD (x : D) (m : M) : Option (D × M) := (lstD x m).bind fun ds => (intsD ds).bind fun ns => (ns.max?).bind fun i => some (.int i, m)
/-- enumerate of a list -/
def iEnumD (cs : CA) : CI := fun ρ m => match cs ρ m with
  | some ([.ref n], m') => match m'[n]? with
    | some (.lst ds) => some (ds.zipIdx.map fun p => D.tup [.int (p.2 : Int), p.1], some n, m')
    | _ => none
  | _ => none
theorem li_enum {e : Expr} {cs : CA} {p pos tpos : Pos} {elts : List Expr} {kk : Nat} (hg : Gl X "enumerate") (hm : X.mg "enumerate" = none) (h : LA X [e] cs) (hs : starEach [e] X.env = [(false, eval e X.env)] := by rfl) :
    LI X (.Tuple elts kk tpos) (.Call (.Name "enumerate" p) [e] [] pos) (iEnumD cs) := by
  obtain ⟨t, pt, ht⟩ := h.ex
  refine ⟨_, pi_enum hg hm pt hs, fun ρ m ds w m' ι σ H R e r s k => ?_⟩
  unfold iEnumD at e
  split at e
  · rename_i n m1 e1
    split at e
    · rename_i es e2
      cases e
      refine ht ρ m _ m' ι σ H _ e1 r s fun ι1 H1 vs g1 r1 h1 => ?_
      cases h1 with
      | cons h2 h3 =>
        cases h3
        cases h2 with
        | @ref _ a hi =>
          obtain ⟨us, q1, q2⟩ := r1.ob _ _ _ e2 hi
          refine ⟨a, us, rfl, .of q1, k ι1 H1 _ g1 r1 ⟨fun i d ι m H hd g r hw => ?_, fun ι m H g r hw => ?_⟩⟩
          · obtain ⟨ws, p1, p2⟩ := r.ob _ _ _ ((hw n rfl).trans e2) (g.at hi)
            rw [List.getElem?_map, List.getElem?_zipIdx] at hd
            obtain ⟨q, hq, hd⟩ := Option.map_eq_some_iff.mp hd
            obtain ⟨y, hy, hq⟩ := Option.map_eq_some_iff.mp hq
            subst hq hd
            obtain ⟨u, h2, h3⟩ := p2.get hy
            refine ⟨⟨ws, u, .of p1, h2⟩, fun x H' ⟨T, x1, ex, hn, eH, k1⟩ => ?_⟩
            subst ex eH
            have z1 := k1 ws (.of p1)
            rw [h2] at z1; cases z1
            have gn := gr_new r hn (.tup [.int (i : Nat), u])
            refine ⟨rm_new r hn _, gn, .tup (.of upd_same) (.cons ?_ (.cons (h3.gr r gn) .nil))⟩
            simp only [Nat.zero_add]
            exact .int _
          · obtain ⟨ws, p1, p2⟩ := r.ob _ _ _ ((hw n rfl).trans e2) (g.at hi)
            exact ⟨ws, .of p1, by rw [← p2.length]; simp⟩
    · cases e
  · cases e
end
end L3

set_option Elab.async false
set_option linter.all false
set_option maxRecDepth 100000
namespace L3
open PySem L2
section
variable {ρ : En} {m : M} {P : D → M → Prop} {R : Fl → M → Prop}
theorem w_callK {n : Nat} {F : FD} {gD : List D → List D → List D} {cs ck : CA} (h : W (cs ρ m) fun ds m1 => W (ck ρ m1) fun es m2 => (gD ds es).length = n ∧ W (F (gD ds es) m2) P) : W (cCallK n F gD cs ck ρ m) P :=
  W.bind (h.mono fun _ _ h => W.bind (h.mono fun _ _ h => by rw [if_pos h.1]; exact h.2))
theorem w_callK0 {n : Nat} {F : FD} {gD : List D → List D → List D} {ck : CA} (h : W (ck ρ m) fun es m2 => (gD [] es).length = n ∧ W (F (gD [] es) m2) P) : W (cCallK0 n F gD ck ρ m) P :=
  W.bind (h.mono fun _ _ h => by rw [if_pos h.1]; exact h.2)
theorem w_par {i j : Nat} {cs : CA} (h : W (cs ρ m) fun ds m1 => ∃ a b, ds = [a, b] ∧ R (.nx ((ρ.set i (some a)).set j (some b))) m1) : W (cPar i j cs ρ m) R :=
  W.bind (h.mono fun ds m1 ⟨a, b, e, h⟩ => by subst e; exact W.some h)
theorem w_sPar {i j : Nat} {cs : CA} {r : CS} (h : W (cs ρ m) fun ds m1 => ∃ a b, ds = [a, b] ∧ W (r ((ρ.set i (some a)).set j (some b)) m1) R) : W (cSeq (cPar i j cs) r ρ m) R :=
  w_seqN (w_par (h.mono fun ds m1 ⟨a, b, e, h⟩ => ⟨a, b, e, _, rfl, h⟩))
theorem w_asgG {c : CE} {g : D → En → Option En} (h : W (c ρ m) fun d m1 => ∃ ρ1, g d ρ = some ρ1 ∧ R (.nx ρ1) m1) : W (cAsg c g ρ m) R := W.bind (h.mono fun _ _ ⟨ρ1, e, h⟩ => W.bindO e (W.some h))
theorem w_sAsgG {c : CE} {g : D → En → Option En} {r : CS} (h : W (c ρ m) fun d m1 => ∃ ρ1, g d ρ = some ρ1 ∧ W (r ρ1 m1) R) : W (cSeq (cAsg c g) r ρ m) R :=
  w_seqN (w_asgG (h.mono fun _ _ ⟨ρ1, e, h⟩ => ⟨ρ1, e, _, rfl, h⟩))
theorem w_seqG {a b : CS} (h : W (a ρ m) fun f m1 => match f with
      | .nx ρ1 => W (b ρ1 m1) R
      | .ct ρ1 => R (.ct ρ1) m1
      | .bk ρ1 => R (.bk ρ1) m1
      | .rt v => R (.rt v) m1) : W (cSeq a b ρ m) R := by
  obtain ⟨f, m1, e, h⟩ := h
  unfold cSeq
  rw [e]
  cases f with
  | nx ρ1 => exact h
  | ct ρ1 => exact ⟨_, _, rfl, h⟩
  | bk ρ1 => exact ⟨_, _, rfl, h⟩
  | rt v => exact ⟨_, _, rfl, h⟩
theorem w_star {c : CE} {cs : CA} {P : List D → M → Prop} (h : W (c ρ m) fun d m1 => ∃ xs, itemsD d m1 = some xs ∧ W (cs ρ m1) fun ds m2 => P (xs ++ ds) m2) : W (cStar c cs ρ m) P :=
  W.bind (h.mono fun d m1 ⟨xs, e, h⟩ => W.bindO e (W.bind (h.mono fun ds m2 h => W.some h)))
theorem w_isN {d : D} (h : P (.bl (isNon d)) m) : W (fIsN d .non m) P := ⟨_, _, rfl, h⟩
theorem w_intB {b : Bool} (h : P (.int (if b then 1 else 0)) m) : W (f1 intD [.bl b] m) P := ⟨_, _, rfl, h⟩
theorem w_tupL {n : Nat} {ds : List D} (e : m[n]? = some (.lst ds)) (h : P (.tup ds) m) : W (f1 tupleD [.ref n] m) P := ⟨_, _, by unfold f1 tupleD itemsD; simp only [e, Option.bind_some], h⟩
theorem w_rep {n : Nat} {k : Int} {ds : List D} (e : m[n]? = some (.lst ds)) (hk : -(2 ^ 63) ≤ k ∧ k < 2 ^ 63 ∧ ds.length * k.toNat ≤ sizeLine) (h : P (.ref m.length) (m ++ [.lst (List.replicate k.toNat ds).flatten])) : W (fRep (.ref n) (.int k) m) P := ⟨_, _, by unfold fRep lstD; simp only [e, Option.bind_some, if_pos hk], h⟩
theorem w_ninT {x : D} {es : List D} (hf : (flatD x && es.all flatD) = true) (h : P (.bl (!es.any fun y => eqF y x)) m) : W (fNin x (.tup es) m) P := ⟨_, _, by
  show fNin x (.tup es) m = _
  unfold fNin fOr
  have e1 : fNinS x (.tup es) m = none := by unfold fNinS; cases x <;> rfl
  rw [e1]
  show fNinL x (.tup es) m = _
  unfold fNinL itemsD
  simp only [Option.bind_some, if_pos hf], h⟩
theorem w_lcT {c : CE} {g : D → En → Option En} {tt : CT} {ce : CE} {vs : List Nat} (h : W (c ρ m) fun d m1 => ∃ ds, d = .tup ds ∧ ds.length ≤ sizeLine ∧ W (lcL none m1 g tt ce (wipeE ρ vs) ds m1) fun out m2 => P (.ref m2.length) (m2 ++ [.lst out])) : W (cLc (iTupD c) g tt ce vs ρ m) P := by
  obtain ⟨d, m1, e, ds, rfl, hx, h⟩ := h
  unfold cLc
  refine W.bindO (by unfold iTupD; rw [e]) ?_
  show W (if ds.length ≤ sizeLine then _ else _) P
  rw [if_pos hx]
  exact W.bind (h.mono fun _ _ h => W.some h)
theorem w_lcNil {m0 : M} {g : D → En → Option En} {tt : CT} {ce : CE} {P : List D → M → Prop} (h : P [] m) : W (lcL none m0 g tt ce ρ [] m) P := by
  unfold lcL
  rw [if_pos Wt.none]
  exact W.some h
end
end L3

set_option Elab.async false
set_option linter.all false
set_option maxRecDepth 100000
namespace L3
open PySem PySem.Spec PyProof.Rows L2
section
variable {X : Cx}
theorem cr_reprI : CallR X (.builtin "repr") (fun xs H Q => ∃ i, xs = [.int i] ∧ i.natAbs.log2 < 1920 ∧ Q (.str (toString i)) H) := by
  intro pins s σ H xs us Q I r h
  obtain ⟨i, rfl, hz, q⟩ := h
  obtain ⟨u, rfl, t, rfl⟩ := vals1 r
  exact PySem.P.repr_of_int hz ⟨.str _, H, I.tok _, ⟨_, rfl⟩, q⟩
theorem cr_reprB : CallR X (.builtin "repr") (fun xs H Q => ∃ b, xs = [.bl b] ∧ Q (.str (if b then "True" else "False")) H) := by
  intro pins s σ H xs us Q I r h
  obtain ⟨b, rfl, q⟩ := h
  obtain ⟨u, rfl, e⟩ := vals1 r
  cases e
  exact PySem.P.repr_of_bool ⟨.str _, H, I.tok _, ⟨_, rfl⟩, q⟩
/-- repr of whole numbers, truths, tuples, lists -/
def rprD (x : D) (m : M) : Option (D × M) := match x with
  | .int i => if i.natAbs.log2 < 1920 then some (.str (toString i), m) else none
  | .bl b => some (.str (if b then "True" else "False"), m)
  | x => reprD x m
theorem lc_rpr (hg : X.A.guards = some []) (hu : X.A.units + 64 < cLine) : LC X (.builtin "repr") (f1 rprD) := by
  obtain ⟨r, c, h⟩ := (lc_repr hg hu).ex
  refine lc_one (callR_or c (callR_or cr_reprI cr_reprB)) fun x m d m' ι H v Q e rm rx k => ?_
  unfold rprD at e
  split at e
  · split at e
    · rename_i hz
      cases e; cases rx
      exact .inr (.inl ⟨_, rfl, hz, k ι H _ .refl rm (.str _)⟩)
    · cases e
  · cases e; cases rx
    exact .inr (.inr ⟨_, rfl, k ι H _ .refl rm (.str _)⟩)
  · exact .inl (h [x] m d m' ι H [v] Q e rm (.cons rx .nil) k)
end
section
variable {m : M} {P : D → M → Prop}
theorem w_rprT {ds : List D} (h : W (f1 reprD [.tup ds] m) P) : W (f1 rprD [.tup ds] m) P := h
end
end L3

set_option Elab.async false
set_option linter.all false
set_option maxRecDepth 100000
namespace L3
open PySem PySem.Spec PyProof.Rows L2
section
variable {X : Cx}
/-! ### in, not in of nested data -/
def rInD (K : PySem.W.Frag) (neg : Bool) : R2 := fun x y H Q => ∃ d es, Dp K H x d ∧ (Dp K H y (.tuple es) ∨ Dp K H y (.list es)) ∧ SeqAt.shaped d = true ∧ PyData.canLayAll0 es = true ∧ Q (.bl (if neg then !es.any fun y => PyData.eqv y d else es.any fun y => PyData.eqv y d)) H
theorem op_notInD (hu : X.A.units + 65 < cLine) : OpR X (compareOp .NotIn) (rInD X.K true) := by
  intro pins s σ H x y v u Q I rx ry h
  obtain ⟨d, es, hd, he, sd, se, q⟩ := h
  obtain ⟨as, r1⟩ := Dp.reads I d x v hd rx
  rcases he with he | he
  · obtain ⟨bs, r2⟩ := Dp.reads I _ y u he ry
    exact SeqAt.notIn_tuple_reads r2 r1 se (SeqAt.canLay_of_shaped sd) (room_in_shaped sd hu) ⟨.bl _, H, I, rfl, q⟩
  · obtain ⟨bs, r2⟩ := Dp.reads I _ y u he ry
    exact SeqAt.notIn_list_reads r2 r1 se (SeqAt.canLay_of_shaped sd) (room_in_shaped sd hu) ⟨.bl _, H, I, rfl, q⟩
def kidsP : PyData → Option (List PyData)
  | .tuple es => some es
  | .list es => some es
  | _ => none
def fInD (neg : Bool) : F2 := fun x y m => (py PYN m x).bind fun d => (py PYN m y).bind fun e => (kidsP e).bind fun es => if (SeqAt.shaped d && PyData.canLayAll0 es) = true then some (.bl (if neg then !es.any fun y => PyData.eqv y d else es.any fun y => PyData.eqv y d), m) else none
theorem inD_of {neg : Bool} {x y : D} {m : M} {d : D} {m' : M} {ι : List Addr} {H : Hp} {v w : V} {Q : VK} (e : fInD neg x y m = some (d, m')) (rm : RM X.K ι m H) (rx : RV X.K ι H x v) (ry : RV X.K ι H y w) (k : Ko X.K ι H d m' Q) : rInD X.K neg v w H Q := by
  unfold fInD at e
  obtain ⟨p, e1, e⟩ := Option.bind_eq_some_iff.mp e
  obtain ⟨q, e2, e⟩ := Option.bind_eq_some_iff.mp e
  obtain ⟨es, e3, e⟩ := Option.bind_eq_some_iff.mp e
  split at e
  · rename_i hs
    rw [Bool.and_eq_true] at hs
    cases e
    refine ⟨p, es, dp_of rm _ _ _ _ e1 rx, ?_, hs.1, hs.2, k ι H _ .refl rm (.bl _)⟩
    cases q <;> cases e3
    · exact .inr (dp_of rm _ _ _ _ e2 ry)
    · exact .inl (dp_of rm _ _ _ _ e2 ry)
  · cases e
theorem lop_ninD (hu : X.A.units + 65 < cLine) : LOp X (compareOp .NotIn) (fInD true) := ⟨_, op_notInD hu, fun x y m d m' ι H v w Q e rm rx ry k => inD_of e rm rx ry k⟩
def fInX : F2 := fOr fIn (fInD false)
def fNinX : F2 := fOr fNin (fInD true)
theorem lop_ninX (hu : X.A.units + 65 < cLine) : LOp X (compareOp .NotIn) fNinX := lop_nin.or (lop_ninD hu)
end
theorem units1 {k : Nat} {A : Around} (r : Room k A) : A.units + 65 < cLine := by have := r.un; omega
section
variable {X : Cx}
/-! ### range(a, b) -/
def iRng2D (cs : CA) : CI := fun ρ m => match cs ρ m with
  | some ([.int a, .int b], m') => if (-(2 ^ 62) ≤ a ∧ a < 2 ^ 62) ∧ -(2 ^ 62) ≤ b ∧ b < 2 ^ 62 then some ((List.range (b - a).toNat).map fun (i : Nat) => D.int (a + (i : Int)), none, m') else none
  | _ => none
end
section
variable {m : M} {P : D → M → Prop}
theorem w_orL {f g : F2} {x y : D} (h : W (f x y m) P) : W (fOr f g x y m) P := by
  obtain ⟨d, m1, e, h⟩ := h
  exact ⟨d, m1, by unfold fOr; rw [e], h⟩
theorem w_orR {f g : F2} {x y : D} (e : f x y m = none) (h : W (g x y m) P) : W (fOr f g x y m) P := by
  obtain ⟨d, m1, e1, h⟩ := h
  exact ⟨d, m1, by unfold fOr; rw [e]; exact e1, h⟩
end
end L3

set_option Elab.async false
set_option linter.all false
set_option maxRecDepth 100000
namespace L3
open PySem PySem.Spec PyProof.Rows L2
section
variable {X : Cx}
end
end L3

set_option Elab.async false
set_option linter.all false
set_option maxRecDepth 100000
namespace PySem
open Sem (wp)
open AutoSeq1 (wpAny_loadPart')
section
variable {prog : Program} {w : World} {A : Around} {E : Value → Shared → Prop} {s : Shared}
end
section
variable {prog : Program} {w : World} {A : Around} {E : Value → Shared → Prop} {s : Shared}
end
end PySem
namespace L2
open PySem PySem.Spec PyProof.Rows
def tTR (ta : TA) : TE := fun σ H Q => ta σ H fun vs H1 => ∃ j : Int, vs = [.int j] ∧ j ≤ 1000000 ∧ -(2 ^ 62) ≤ j ∧ ∀ p : Addr, H1 p = none → Q (.ref p) (upd H1 p (.tup ((List.range j.toNat).map fun (i : Nat) => V.int (i : Int))))
end L2

set_option Elab.async false
set_option linter.all false
set_option maxRecDepth 100000
namespace L3
open PySem PySem.Spec PyProof.Rows L2
section
variable {X : Cx}
/-- tuple(range(n)) -/
def cTR (cs : CA) : CE := fun ρ m => (cs ρ m).bind fun p => match p.1 with
  | [.int j] => if j ≤ 1000000 ∧ -(2 ^ 62) ≤ j then some (.tup ((List.range j.toNat).map fun (i : Nat) => D.int (i : Int)), p.2) else none
  | _ => none
/-! ### xs[i] = v -/
def cLput (o k v : CE) : CS := fun ρ m => (v ρ m).bind fun x => (o ρ x.2).bind fun y => (k ρ y.2).bind fun z => match y.1, z.1 with
  | .ref n, .int i => match z.2[n]? with
    | some (.lst ds) => (ixN ds.length i).bind fun j => some (.nx ρ, z.2.set n (.lst (ds.set j x.1)))
    | _ => none
  | _, _ => none
end
section
variable {ρ : En} {m : M} {P : D → M → Prop} {R : Fl → M → Prop}
end
end L3

set_option Elab.async false
set_option linter.all false
set_option maxRecDepth 100000
namespace L3
open PySem PySem.Spec PyProof.Rows L2
section
variable {X : Cx}
/-! ### a keyword argument left to its default -/
def apD {α : Type} (k j : Nat) (pm : List Nat) (dv : α) (us ws : List α) : List α := if us.length = k ∧ ws.length = j then pm.filterMap fun i => (us ++ ws ++ [dv])[i]? else []
end
end L3

set_option Elab.async false
set_option linter.all false
set_option maxRecDepth 100000
/-! a tuple times an int; products of wide ints -/
namespace L3
open PySem PySem.Spec PyProof.Rows L2
open Sem (wp)
open Builtin
section
variable {X : Cx}
def rRepT (K : PySem.W.Frag) : R2 := fun x y H Q => ∃ l k xs, x = .ref l ∧ y = .int k ∧ SqT K H l xs ∧ 1 < k ∧ k < 2 ^ 63 ∧ xs ≠ [] ∧ xs.length * k.toNat ≤ sizeLine ∧
  ∀ p, H p = none → Q (.ref p) (upd H p (.tup (List.replicate k.toNat xs).flatten))
def fRepT : F2 := fun x y m => match x, y with
  | .tup ds, .int k => if 1 < k ∧ k < 2 ^ 63 ∧ ds ≠ [] ∧ ds.length * k.toNat ≤ sizeLine then some (.tup (List.replicate k.toNat ds).flatten, m) else none
  | _, _ => none
abbrev fMulW : F2 := fI (fun i j => decide (i.natAbs < 2 ^ 1000) && decide (j.natAbs < 2 ^ 1000)) fun i j => .int (i * j)
end
section
variable {m : M} {P : D → M → Prop}
end
end L3

set_option Elab.async false
set_option linter.all false
set_option maxRecDepth 100000
namespace PyProof.Rows
open PySem PySem.Spec
def firstMetS (val : Nat → Str) (i : Nat) : List Str := ((List.range i).map val).foldl step_dedup []
section
variable {prog : Program} {w : World} {A : Around} {R : Result → Shared → Prop} {I : Addr} {fp wr : List Addr} {G : Array GenState → Array GenState → Prop} {n : Nat} {P : Nat → Value → Prop} {St : Nat → Shared → Prop}
end
end PyProof.Rows
namespace PySem
section
variable {prog : Program} {w : World} {A : Around} {E : Value → Shared → Prop} {s : Shared}
end
end PySem

set_option Elab.async false
set_option linter.all false
set_option maxRecDepth 100000
namespace L3
open PySem PySem.Spec PyProof.Rows L2
/-! ### sorted of a set of texts -/
section
variable {prog : Program} {w : World} {A : Around} {E : Value → Shared → Prop} {s : Shared}
end
end L3
namespace L2
open PySem PySem.Spec PyProof.Rows
def dedS (ns : List Str) : List Str := ns.foldl step_dedup []
def tSSs (K : PySem.W.Frag) (ta : TA) : TE := fun σ H Q => ta σ H fun vs H1 => ∃ l ns, vs = [.ref l] ∧ (SqL K H1 l (ns.map V.str) ∨ SqT K H1 l (ns.map V.str)) ∧ ns.length + 1 < scanBound ∧ (dedS ns).length < 64 ∧
  ∀ (ns' : List Str) (p : Addr), ns'.Perm (dedS ns) → sortedS ns' = true → H1 p = none → Q (.ref p) (upd H1 p (.lst (ns'.map V.str)))
end L2

set_option Elab.async false
set_option linter.all false
set_option maxRecDepth 100000
/-! sorted of texts; sorted(set(texts)) -/
namespace L3
open PySem PySem.Spec PyProof.Rows L2
def insS (x : Str) : List Str → List Str
  | [] => [x]
  | y :: ys => if ltCps y.cps.toList x.cps.toList then y :: insS x ys else x :: y :: ys
def srtS : List Str → List Str
  | [] => []
  | x :: xs => insS x (srtS xs)
def leS (a b : Str) : Prop := ltCps b.cps.toList a.cps.toList = false
section
variable {X : Cx}
def cSSs (c : CE) : CE := fun ρ m => (c ρ m).bind fun p => (itemsD p.1 p.2).bind fun ds => (strsD ds).bind fun ns => if ns.length + 1 < scanBound ∧ (dedS ns).length < 64 then some (.ref p.2.length, p.2 ++ [.lst ((srtS (dedS ns)).map D.str)]) else none
def sortedSD (x : D) (m : M) : Option (D × M) := (lstD x m).bind fun ds => (strsD ds).bind fun ns => if ns.length < 64 then some (.ref m.length, m ++ [.lst ((srtS ns).map D.str)]) else none
end
section
variable {ρ : En} {m : M} {P : D → M → Prop}
end
end L3

set_option Elab.async false
set_option linter.all false
set_option maxRecDepth 100000
namespace L2
open PySem PySem.Spec PyProof.Rows
section
variable {prog : Program} {w : World} {A : Around} {E : Value → Shared → Prop} {R : Result → Shared → Prop} {s : Shared}
end
section
variable {κ : Type} [DecidableEq κ]
/-- a set that grows -/
def sPhi {P : Program} {w : World} (knd : PySem.KeyKind P w κ) (D : Addr) (σ : List κ) : Heap → Prop := fun h => h.SetT knd D (fun k => σ.any (· == k)) σ.length
end
section
variable {X : Cx}
def tSc {κ : Type} [DecidableEq κ] {P : Program} {w : World} (knd : PySem.KeyKind P w κ) (vk : κ → V) (wi : TI) (g : TG) (tt : TT) (te : TE) (vs : List Nat) : TE := fun σ H Q => wi σ H fun J H1 => ∀ D, H1 D = none → ∃ W : Nat → Nat → Hp → Prop, (∃ m, W 0 m (upd H1 D (.ext (sPhi knd D [])))) ∧ ∀ i m H, W i m H →
  (J.stop i H ∧ Q (.ref D) H) ∨ (J.go i H ∧ ∃ Nx : Hp → Prop, (∀ H', Nx H' → ∃ m', m' < m ∧ W (i + 1) m' H') ∧ ∀ x H', J.yld i H x H' → g x (wipe σ vs) H' fun σ2 H2 => wipe σ2 vs = wipe σ vs ∧ tt σ2 H2 fun b H3 =>
    if b = true then te σ2 H3 fun y H4 => ∃ acc k, y = vk k ∧ H4 D = some (.ext (sPhi knd D acc)) ∧ acc.length + 1 < scanBound ∧ Nx (upd H4 D (.ext (sPhi knd D (step_dedup acc k)))) else Nx H3)
end
end L2

set_option Elab.async false
set_option linter.all false
set_option maxRecDepth 100000
/-! sorted({.. for ..}) of texts, of whole numbers -/
namespace L2
open PySem PySem.Spec PyProof.Rows
section
variable {X : Cx}
def rSortExtS (P : Program) (w : World) : List V → Hp → VK → Prop := fun xs H Q => ∃ D acc, xs = [.ref D] ∧ H D = some (.ext (sPhi (PySem.strKind P w) D acc)) ∧ acc.Nodup ∧ acc.length < 64 ∧
  ∀ (ns' : List Str) (p : Addr), ns'.Perm acc → sortedS ns' = true → H p = none → Q (.ref p) (upd H p (.lst (ns'.map V.str)))
def rSortExtI (P : Program) (w : World) : List V → Hp → VK → Prop := fun xs H Q => ∃ D acc, xs = [.ref D] ∧ H D = some (.ext (sPhi (intKind P w) D acc)) ∧ acc.Nodup ∧ acc.length < 64 ∧
  ∀ (ns' : List Int) (p : Addr), ns'.Perm acc → ns'.Pairwise (· ≤ ·) → H p = none → Q (.ref p) (upd H p (.lst (ns'.map V.int)))
end
end L2
namespace L3
open PySem PySem.Spec PyProof.Rows L2
/-- the members of a set -/
structure KK (κ : Type) [DecidableEq κ] where
  vk : κ → V
  dk : κ → D
  kd : D → Option κ
  hd : ∀ d k, kd d = some k → d = dk k
  hv : ∀ (K : PySem.W.Frag) (ι : List Addr) (H : Hp) (k : κ) (v : V), RV K ι H (dk k) v → v = vk k
  hr : ∀ (K : PySem.W.Frag) (ι : List Addr) (H : Hp) (k : κ), RV K ι H (dk k) (vk k)
def kkS : KK Str := ⟨V.str, D.str, fun d => match d with | .str x => some x | _ => none, fun d k e => by cases d <;> cases e; rfl, fun _ _ _ k v h => by cases h; rfl, fun _ _ _ k => .str k⟩
def kkI : KK Int := ⟨V.int, D.int, fun d => match d with | .int x => some x | _ => none, fun d k e => by cases d <;> cases e; rfl, fun _ _ _ k v h => by cases h; rfl, fun _ _ _ k => .int k⟩
section
variable {κ : Type} [DecidableEq κ]
def kds (kk : KK κ) : List D → Option (List κ)
  | [] => some []
  | d :: ds => (kk.kd d).bind fun k => (kds kk ds).bind fun ks => some (k :: ks)
def dedG (ns : List κ) : List κ := ns.foldl step_dedup []
def NoTF (H : Hp) (p : Addr) : Prop := (∀ xs, H p ≠ some (.tup xs)) ∧ (∀ o u, H p ≠ some (.frz o u)) ∧ ∀ xs, H p ≠ some (.xd xs)
/-- what a set comprehension meets, one behind another -/
noncomputable def cSc (kk : KK κ) (ci : CI) (g : D → En → Option En) (ct : CT) (ce : CE) (vs : List Nat) : En → M → Option (List κ × M) := fun ρ m => (ci ρ m).bind fun p => if p.1.length + 1 < scanBound then (lcL p.2.1 p.2.2 g ct ce (wipeE ρ vs) p.1 p.2.2).bind fun q => (kds kk q.1).bind fun ks => some (ks, q.2) else none
end
section
variable {X : Cx}
noncomputable def cSSC (c : En → M → Option (List Str × M)) : CE := fun ρ m => (c ρ m).bind fun p => if (dedG p.1).length < 64 then some (.ref p.2.length, p.2 ++ [.lst ((srtS (dedG p.1)).map D.str)]) else none
noncomputable def cSIC (c : En → M → Option (List Int × M)) : CE := fun ρ m => (c ρ m).bind fun p => if (dedG p.1).length < 64 then some (.ref p.2.length, p.2 ++ [.lst ((srt (dedG p.1)).map D.int)]) else none
end
end L3

set_option Elab.async false
set_option linter.all false
set_option maxRecDepth 100000
namespace L2
open PySem PySem.Spec PyProof.Rows
section
variable {prog : Program} {w : World} {A : Around} {E : Value → Shared → Prop}
end
section
variable {X : Cx}
end
end L2
namespace L3
open PySem PySem.Spec PyProof.Rows L2
def pairsD : List D → Option (List (Key × D))
  | [] => some []
  | d :: ds => (match d with | .tup [a, b] => (keyD a).map fun k => (k, b) | _ => none).bind fun kv => (pairsD ds).bind fun r => some (kv :: r)
noncomputable def dictD (x : D) (m : M) : Option (D × M) := (itemsD x m).bind fun ds => (pairsD ds).bind fun kvs => some (.ref m.length, m ++ [.dic (dFold [] kvs)])
section
variable {X : Cx}
end
section
variable {m : M} {P : D → M → Prop} {ρ : En}
end
end L3

set_option Elab.async false
set_option linter.all false
set_option maxRecDepth 100000
/-! x in d, x not in d of a dict with keys that are whole numbers or texts -/
namespace L2
open PySem PySem.Spec PyProof.Rows
section
variable {X : Cx}
end
end L2
namespace L3
open PySem PySem.Spec PyProof.Rows L2
def fInDc : F2 := fun x y m => (dicD y m).bind fun p => (keyD x).bind fun k => some (.bl (valD p.2 k).isSome, m)
def fNinDc : F2 := fun x y m => (dicD y m).bind fun p => (keyD x).bind fun k => some (.bl (!(valD p.2 k).isSome), m)
section
variable {X : Cx}
end
section
variable {m : M} {P : D → M → Prop}
end
end L3

set_option Elab.async false
set_option linter.all false
set_option maxRecDepth 100000
/-! d.setdefault(k, v) -/
namespace L2
open PySem PySem.Spec PyProof.Rows
section
variable {prog : Program} {w : World} {K : Type} [DecidableEq K] {knd : KeyKind prog w K} {A : Around} {E : Value → Shared → Prop} {s : Shared}
end
section
variable {X : Cx} {pins : List (Addr × Obj)} {σ : St} {H : Hp} {s : Shared} {a : Addr} {kvs : List (Key × V)} {k : Key} {u r : Value} {A : Around} {E : Value → Shared → Prop}
end
end L2

set_option Elab.async false
set_option linter.all false
set_option maxRecDepth 100000
/-! d.setdefault(k, v) in both layers -/
namespace L2
open PySem PySem.Spec PyProof.Rows
def tSetDef (td ty tx : TE) : TE := fun σ H Q => td σ H fun x H1 => ∃ a, x = .ref a ∧ IsD H1 a ∧ ty σ H1 fun y H2 => tx σ H2 fun z H3 => ∃ kvs k, H3 a = some (.dK kvs) ∧ y = kV k ∧ kvs.length < sizeLine ∧
  (∀ v, valV kvs k = some v → Q v H3) ∧ (valV kvs k = none → Q z (upd H3 a (.dK (putK kvs k z))))
section
variable {X : Cx} {o e f : Expr} {apos cpos : Pos} {td ty tx : TE}
end
end L2
namespace L3
open PySem PySem.Spec PyProof.Rows L2
def cSetDef (o k x : CE) : CE := fun ρ m => (o ρ m).bind fun p => match dicD p.1 p.2 with
  | some _ => (k ρ p.2).bind fun q => (x ρ q.2).bind fun r => (dicD p.1 r.2).bind fun dk => (keyD q.1).bind fun ky => if dk.2.length < sizeLine then (match valD dk.2 ky with
    | some d => some (d, r.2)
    | none => some (r.1, r.2.set dk.1 (.dic (putD dk.2 ky r.1)))) else none
  | none => none
section
variable {X : Cx}
end
section
variable {m : M} {P : D → M → Prop} {ρ : En}
end
end L3

set_option Elab.async false
set_option linter.all false
set_option maxRecDepth 100000
namespace PySem
section
variable {prog : Program} {w : World} {A : Around} {E : Value → Shared → Prop} {s : Shared}
end
end PySem

set_option Elab.async false
set_option linter.all false
set_option maxRecDepth 100000
/-! sorted(d) of a dict whose keys are whole numbers -/
namespace L3
open PySem PySem.Spec PyProof.Rows L2
def intKeys {α : Type} : List (Key × α) → Option (List Int)
  | [] => some []
  | (.inl i, _) :: r => (intKeys r).map (i :: ·)
  | (.inr _, _) :: _ => none
section
variable {prog : Program} {w : World} {A : Around} {E : Value → Shared → Prop} {s : Shared}
end
end L3
namespace L2
open PySem PySem.Spec PyProof.Rows
section
variable {X : Cx}
def rSortDict : List V → Hp → VK → Prop := fun xs H Q => ∃ D kvs σ, xs = [.ref D] ∧ H D = some (.dK kvs) ∧ L3.intKeys kvs = some σ ∧ σ.length < 64 ∧
  ∀ (ns' : List Int) (p : Addr), ns'.Perm σ → ns'.Pairwise (· ≤ ·) → H p = none → Q (.ref p) (upd H p (.lst (ns'.map V.int)))
end
end L2
namespace L3
open PySem PySem.Spec PyProof.Rows L2
def sortedDc (x : D) (m : M) : Option (D × M) := (dicD x m).bind fun p => (intKeys p.2).bind fun ns => if ns.length < 64 then some (.ref m.length, m ++ [.lst ((srt ns).map D.int)]) else none
section
variable {X : Cx}
end
end L3

set_option Elab.async false
set_option linter.all false
set_option maxRecDepth 100000
/-! y = {.. : .. for ..} -/
namespace L2
open PySem PySem.Spec PyProof.Rows
section
variable {X : Cx}
end
end L2
namespace L3
open PySem PySem.Spec PyProof.Rows L2
section
variable {X : Cx}
end
end L3

set_option Elab.async false
set_option linter.all false
set_option maxRecDepth 100000
/-! for k in d: the dict is locked meanwhile (fdc in the store); reading of a locked one -/
namespace L3
open PySem PySem.Spec PyProof.Rows L2
def kD : Key → D
  | .inl i => .int i
  | .inr x => .str x
def iKeysF (c : CE) : CI := fun ρ m => match c ρ m with
  | some (.ref n, m') => match m'[n]? with
    | some (.fdc kvs) => some (kvs.map (fun kv => kD kv.1), none, m')
    | _ => none
  | _ => none
section
variable {X : Cx}
end
noncomputable def cForK (i : Nat) (g : D → En → Option En) (body : CS) : CS := fun ρ m => match ρ[i]? with
  | some (some (.ref n)) => match m[n]? with
    | some (.dic kvs) => (cFor (iKeysF (cVar i)) g body ρ (m.set n (.fdc kvs))).bind fun q => match q.2[n]? with
      | some (.fdc kvs') => some (q.1, q.2.set n (.dic kvs'))
      | _ => none
    | _ => none
  | _ => none
section
variable {X : Cx}
end
/-! reading of a locked dict -/
def getF : F2 := fun x y m => match x with
  | .ref n => match m[n]? with
    | some (.fdc kvs) => (keyD y).bind fun k => (valD kvs k).bind fun d => some (d, m)
    | _ => none
  | _ => none
section
variable {X : Cx}
end
end L3

set_option Elab.async false
set_option linter.all false
set_option maxRecDepth 100000
/-! [e for a in A for b in B], t < u of tuples of whole numbers, list(range(a, b)), dicts of the module, statements that are never reached -/
namespace L3
open PySem PySem.Spec PyProof.Rows L2
/-- what is walked within a comprehension -/
structure WkM (K : PySem.W.Frag) (ι0 : List Addr) (m0 : M) (H0 : Hp) (J : It) (ds : List D) (w : Option Nat) : Prop where
  go : ∀ (i : Nat) (d : D) (ι : List Addr) (m : M) (H : Hp), ds[i]? = some d → Mv ι0 ι H0 H → RM K ι m H → Wt w m0 m → J.go i H ∧ ∀ x H', J.yld i H x H' → RM K ι m H' ∧ Gr ι ι H H' ∧ RV K ι H' d x
  stop : ∀ (ι : List Addr) (m : M) (H : Hp), Mv ι0 ι H0 H → RM K ι m H → Wt w m0 m → J.stop ds.length H
def tIc (K : PySem.W.Frag) (ci : CI) : TI := fun σ H R => ∃ (ρ : En) (m : M) (ds : List D) (w : Option Nat) (m' : M) (ι : List Addr), ci ρ m = some (ds, w, m') ∧ RM K ι m H ∧ RS K ι H σ ρ ∧
  ∀ (ι' : List Addr) (H' : Hp) (J : It), Gr ι ι' H H' → RM K ι' m' H' → WkM K ι' m' H' J ds w → R J H'
structure LIM (X : Cx) (tg iter : Expr) (c : CI) : Prop where
  pi : PI X tg iter (tIc X.K c)
open Classical in
noncomputable def lc2L (w : Option Nat) (m0 : M) (g : D → En → Option En) (tt : CT) (ci1 : CI) (g1 : D → En → Option En) (tt1 : CT) (ce : CE) (vs1 : List Nat) (ρ : En) : List D → M → Option (List D × M)
  | [], m => if Wt w m0 m then some ([], m) else none
  | d :: ds, m => if Wt w m0 m then (g d ρ).bind fun ρ1 => (tt ρ1 m).bind fun p => if p.1 = true then
      (ci1 ρ1 p.2).bind fun i => (lcL i.2.1 i.2.2 g1 tt1 ce (wipeE ρ1 vs1) i.1 i.2.2).bind fun q => (lc2L w m0 g tt ci1 g1 tt1 ce vs1 ρ ds q.2).bind fun r => some (q.1 ++ r.1, r.2)
      else lc2L w m0 g tt ci1 g1 tt1 ce vs1 ρ ds p.2 else none
noncomputable def cLc2 (ci : CI) (g : D → En → Option En) (tt : CT) (ci1 : CI) (g1 : D → En → Option En) (tt1 : CT) (ce : CE) (vs vs1 : List Nat) : CE := fun ρ m => (ci ρ m).bind fun p =>
  (lc2L p.2.1 p.2.2 g tt ci1 g1 tt1 ce vs1 (wipeE ρ vs) p.1 p.2.2).bind fun q => if q.1.length ≤ sizeLine then some (.ref q.2.length, q.2 ++ [.lst q.1]) else none
section
variable {X : Cx}
/-! ### never reached -/
def cNever : CS := fun _ _ => none
theorem ls_never {st : Stmt} : LS X st cNever := ⟨_, ps_never, fun ρ m f m' ι σ H D e r s k => nomatch e⟩
/-! ### t < u -/
def fLtT : F2 := fun x y m => match x, y with
  | .tup xs, .tup ys => (intsD xs).bind fun ns => (intsD ys).bind fun ms => some (.bl (HT.lexLt ns ms), m)
  | _, _ => none
end
end L3

set_option Elab.async false
set_option linter.all false
set_option maxRecDepth 100000
/-! list(range(a, b)); dicts of the module with texts as keys -/
namespace L2
open PySem PySem.Spec PyProof.Rows
def tLR (ta : TA) : TE := fun σ H Q => ta σ H fun vs H1 => ∃ a b : Int, vs = [.int a, .int b] ∧ (-1000000 ≤ a ∧ a ≤ 1000000) ∧ (-1000000 ≤ b ∧ b ≤ 1000000) ∧ ∀ p : Addr, H1 p = none → Q (.ref p) (upd H1 p (.lst ((List.range (b - a).toNat).map fun (i : Nat) => V.int (a + (i : Int)))))
end L2
namespace L3
open PySem PySem.Spec PyProof.Rows L2
/-- list(range(a, b)) -/
def cLR (cs : CA) : CE := fun ρ m => (cs ρ m).bind fun p => match p.1 with
  | [.int a, .int b] => if (-1000000 ≤ a ∧ a ≤ 1000000) ∧ (-1000000 ≤ b ∧ b ≤ 1000000) then some (.ref p.2.length, p.2 ++ [.lst ((List.range (b - a).toNat).map fun (i : Nat) => D.int (a + (i : Int)))]) else none
  | _ => none
section
variable {X : Cx}
end
/-! ### dicts of the module -/
def opts {α β : Type} (f : α → Option β) : List α → Option (List β)
  | [] => some []
  | a :: l => (f a).bind fun b => (opts f l).map (b :: ·)
def rdK (K : PySem.W.Frag) : Nat → Value → Option D
  | 0, _ => none
  | _ + 1, .none => some .non
  | _ + 1, .bool b => some (.bl b)
  | _ + 1, .int i _ => some (.int i)
  | _ + 1, .str x _ => some (.str x)
  | n + 1, .ref a => match K.lookup a with
    | some ⟨.type "tuple", none, .seq its _, _⟩ => if its.toList.length ≤ 1000 then (opts (rdK K n) its.toList).map D.tup else none
    | _ => none
  | _ + 1, _ => none
def tabIn (K : PySem.W.Frag) (n : Nat) : List DictEntry → Option (List (Str × D))
  | [] => some []
  | e :: l => match e.key with
    | .str x _ => (rdK K n e.val).bind fun d => (tabIn K n l).map ((x, d) :: ·)
    | _ => none
def tabGet (tab : List (Str × D)) (y : Str) : Option D := (tab.find? fun p => p.1 == y).map (·.2)
theorem opts_ok {K : PySem.W.Frag} {f : Value → Option D} (hf : ∀ v d, f v = some d → ∃ vv, RelV vv v ∧ ∀ ι H, RV K ι H d vv) : ∀ {vs : List Value} {ds : List D}, opts f vs = some ds → ∃ vvs, Vals vvs vs ∧ ∀ ι H, RVs K ι H ds vvs
  | [], ds, e => by cases e; exact ⟨[], .nil, fun _ _ => .nil⟩
  | v :: vs, ds, e => by
    unfold opts at e
    obtain ⟨d, e1, e⟩ := Option.bind_eq_some_iff.mp e
    obtain ⟨ds', e2, rfl⟩ := Option.map_eq_some_iff.mp e
    obtain ⟨vv, h1, h2⟩ := hf v d e1
    obtain ⟨vvs, h3, h4⟩ := opts_ok hf e2
    exact ⟨vv :: vvs, .cons h1 h3, fun ι H => .cons (h2 ι H) (h4 ι H)⟩
theorem rdK_ok {K : PySem.W.Frag} : ∀ (n : Nat) (v : Value) (d : D), rdK K n v = some d → ∃ vv, RelV vv v ∧ ∀ ι H, RV K ι H d vv
  | 0, _, _, e => by cases e
  | n + 1, v, d, e => by
    unfold rdK at e
    split at e
    · rename_i h; cases h
    · cases e; exact ⟨.non, rfl, fun _ _ => .non⟩
    · cases e; exact ⟨.bl _, rfl, fun _ _ => .bl _⟩
    · cases e; exact ⟨.int _, ⟨_, rfl⟩, fun _ _ => .int _⟩
    · cases e; exact ⟨.str _, ⟨_, rfl⟩, fun _ _ => .str _⟩
    · rename_i n' a hn
      cases hn
      split at e
      · rename_i its cn sl hl
        split at e
        · rename_i hz
          obtain ⟨ds, e1, rfl⟩ := Option.map_eq_some_iff.mp e
          obtain ⟨vvs, h1, h2⟩ := opts_ok (rdK_ok n) e1
          refine ⟨.ref a, rfl, fun ι H => .tup (.inr ⟨_, its, cn, hl, rfl, ⟨rfl, rfl⟩, ?_, h1⟩) (h2 ι H)⟩
          rw [Array.length_toList] at hz
          exact Nat.le_trans hz (by decide)
        · cases e
      · cases e
    · cases e
theorem tab_find {K : PySem.W.Frag} {n : Nat} (y : Str) : ∀ {l : List DictEntry} {tab : List (Str × D)}, tabIn K n l = some tab → (findBy Value.isStrOf l.toArray y = none ∧ tabGet tab y = none) ∨ ∃ v d, findBy Value.isStrOf l.toArray y = some v ∧ tabGet tab y = some d ∧ rdK K n v = some d
  | [], tab, e => by cases e; exact .inl ⟨rfl, rfl⟩
  | en :: l, tab, e => by
    unfold tabIn at e
    split at e
    · rename_i x t hk
      obtain ⟨d, e1, e⟩ := Option.bind_eq_some_iff.mp e
      obtain ⟨tab', e2, rfl⟩ := Option.map_eq_some_iff.mp e
      have hf : findBy Value.isStrOf (en :: l).toArray y = if (x == y) = true then some en.val else findBy Value.isStrOf l.toArray y := by
        unfold findBy
        rw [List.find?_toArray, List.find?_toArray, List.find?_cons]
        have : Value.isStrOf y en.key = (x == y) := by rw [hk]; rfl
        rw [this]
        cases (x == y) <;> rfl
      have hg : tabGet ((x, d) :: tab') y = if (x == y) = true then some d else tabGet tab' y := by
        unfold tabGet
        rw [List.find?_cons]
        cases h : (x == y) <;> simp only [h] <;> rfl
      rw [hf, hg]
      cases hxy : (x == y) with
      | true => exact .inr ⟨en.val, d, by simp, by simp, e1⟩
      | false =>
        simp only [Bool.false_eq_true, if_false]
        exact tab_find y e2
    · cases e
structure MD (K : PySem.W.Frag) (P : Params) (a : Addr) (tab : List (Str × D)) : Prop where
  sys : (a == sysModules) = false
  ex : ∃ (es : Array DictEntry) (n : Nat), K.lookup a = some ⟨.type "dict", none, .dict es n, #[]⟩ ∧ PySem.W.KeysLit P es.toList ∧ tabIn K 6 es.toList = some tab
end L3
namespace L2
open PySem PySem.Spec PyProof.Rows
section
variable {X : Cx} {a : Addr} {tab : List (Str × L3.D)}
theorem md_at {pins : List (Addr × Obj)} {σ : St} {H : Hp} {s : Shared} (md : L3.MD X.K X.w.params a tab) (I : Inv X pins σ H s) (y : Str) : ∃ f : Str → Option Value, s.heap.MapOf (strKind X.prog X.w) a f ∧ ((f y = none ∧ L3.tabGet tab y = none) ∨ ∃ v d, f y = some v ∧ L3.tabGet tab y = some d ∧ ∃ vv, RelV vv v ∧ ∀ ι H, L3.RV X.K ι H d vv) := by
  obtain ⟨es, n, hl, hk, ht⟩ := md.ex
  refine ⟨_, PySem.W.mapOf_K (prog := X.prog) I.kIn hl hk, ?_⟩
  have := L3.tab_find y ht
  rw [Array.toArray_toList] at this
  rcases this with h | ⟨v, d, h1, h2, h3⟩
  · exact .inl h
  · exact .inr ⟨v, d, h1, h2, L3.rdK_ok 6 v d h3⟩
/-- T[k], T a dict of the module -/
def tMGet (K : PySem.W.Frag) (tab : List (Str × L3.D)) (ty : TE) : TE := fun σ H Q => ty σ H fun y H1 => ∃ x d, y = .str x ∧ L3.tabGet tab x = some d ∧ ∀ vv, (∀ ι H, L3.RV K ι H d vv) → Q vv H1
theorem pe_mget {x : Str} {i : Expr} {ty : TE} {pos xp : Pos} (md : L3.MD X.K X.w.params a tab) (hg : Gl X x) (hm : X.mg x = some (.ref a)) (hi : PE X i ty) (hs : NoSl i) (hd : (x == ("__debug__" : Str)) = false := by decide) : PE X (.Subscript (.Name x xp) i pos) (tMGet X.K tab ty) := by
  intro pins s σ H Q I h
  refine subD_of PySem.F.slot_dict_getitem.lookup hs (ld_glob I hg hm ?_ hd)
  refine thn (hi pins s σ H _ I h) fun iv s2 ⟨y, H2, I2, ry, z, d, ey, ht, q⟩ => ?_
  subst ey
  obtain ⟨t, rfl⟩ := ry
  obtain ⟨f, hf, h2⟩ := md_at md I2 z
  rcases h2 with ⟨_, h3⟩ | ⟨v, d', h3, h4, vv, h5, h6⟩
  · rw [ht] at h3; cases h3
  · rw [ht] at h4; cases h4
    exact ⟨hf.typeIs, wpAny_getItem_of (strKind_is X.prog X.w z t) hf h3 ⟨vv, H2, I2.tok _, h5, q vv h6⟩⟩
theorem op_nin_mod : OpR X (compareOp .NotIn) (fun x y H Q => ∃ z a tab, x = .str z ∧ y = .ref a ∧ L3.MD X.K X.w.params a tab ∧ Q (.bl (!(L3.tabGet tab z).isSome)) H) := by
  intro pins s σ H x y v u Q I rx ry h
  obtain ⟨z, a, tab, rfl, rfl, md, q⟩ := h
  obtain rfl : u = Value.ref a := ry
  obtain ⟨t, rfl⟩ := rx
  obtain ⟨f, hf, h2⟩ := md_at md I z
  refine wpAny_notIn_of (strKind_is X.prog X.w z t) md.sys hf ?_
  have e : (f z).isSome = (L3.tabGet tab z).isSome := by
    rcases h2 with ⟨h3, h4⟩ | ⟨v, d', h3, h4, _⟩ <;> rw [h3, h4] <;> rfl
  rw [e]
  exact ⟨.bl _, H, I.tok _, rfl, q⟩
end
end L2
namespace L3
open PySem PySem.Spec PyProof.Rows L2
def cMGet (tab : List (Str × D)) (c : CE) : CE := fun ρ m => match c ρ m with
  | some (.str x, m') => (tabGet tab x).map fun d => (d, m')
  | _ => none
def cMIn (neg : Bool) (tab : List (Str × D)) (c : CE) : CE := fun ρ m => match c ρ m with
  | some (.str x, m') => some (.bl (neg != (tabGet tab x).isSome), m')
  | _ => none
section
variable {X : Cx} {a : Addr} {tab : List (Str × D)}
theorem le_mget {x : Str} {i : Expr} {c : CE} {pos xp : Pos} (hg : Gl X x) (md : ∃ a, X.mg x = some (.ref a) ∧ MD X.K X.w.params a tab) (hi : LE X i c) (hs : NoSl i := by exact fun _ _ => rfl) (hd : (x == ("__debug__" : Str)) = false := by decide) : LE X (.Subscript (.Name x xp) i pos) (cMGet tab c) := by
  obtain ⟨a, hm, md⟩ := md
  obtain ⟨t, pt, ht⟩ := hi.ex
  refine ⟨_, pe_mget md hg hm pt hs hd, fun ρ m d m' ι σ H Q e r s k => ?_⟩
  unfold cMGet at e
  split at e
  · rename_i z m1 e1
    obtain ⟨d', e2, e⟩ := Option.map_eq_some_iff.mp e
    cases e
    refine ht ρ m _ m' ι σ H _ e1 r s fun ι1 H1 v g1 r1 h1 => ?_
    cases h1
    exact ⟨z, d, rfl, e2, fun vv hv => k ι1 H1 vv g1 r1 (hv ι1 H1)⟩
  · cases e
theorem le_mnin {x : Str} {i : Expr} {c : CE} {pos xp : Pos} (hg : Gl X x) (md : ∃ a, X.mg x = some (.ref a) ∧ MD X.K X.w.params a tab) (hi : LE X i c) (hd : (x == ("__debug__" : Str)) = false := by decide) (hm : behindInMarks .NotIn (.Name x xp) = false := by first | exact nomark _ | rfl) : LE X (.Compare i [.NotIn] [.Name x xp] pos) (cMIn true tab c) := by
  obtain ⟨a, hma, md⟩ := md
  obtain ⟨t, pt, ht⟩ := hi.ex
  refine ⟨_, pe_cmpR op_nin_mod pt (pe_glob (v := .ref a) hg hma rfl hd) hm, fun ρ m d m' ι σ H Q e r s k => ?_⟩
  unfold cMIn at e
  split at e
  · rename_i z m1 e1
    cases e
    refine ht ρ m _ m' ι σ H _ e1 r s fun ι1 H1 v g1 r1 h1 => ?_
    cases h1
    refine ⟨z, a, tab, rfl, rfl, md, ?_⟩
    rw [Bool.true_bne] at k
    exact k ι1 H1 _ g1 r1 (.bl _)
  · cases e
end
section
variable {ρ : En} {m : M} {P : D → M → Prop}
theorem w_mget {tab : List (Str × D)} {c : CE} (h : W (c ρ m) fun d m1 => ∃ x v, d = .str x ∧ tabGet tab x = some v ∧ P v m1) : W (cMGet tab c ρ m) P := by
  obtain ⟨d, m1, e, x, v, rfl, h1, h2⟩ := h
  exact ⟨_, _, by unfold cMGet; simp only [e, h1, Option.map_some], h2⟩
theorem w_min {neg : Bool} {tab : List (Str × D)} {c : CE} (h : W (c ρ m) fun d m1 => ∃ x, d = .str x ∧ P (.bl (neg != (tabGet tab x).isSome)) m1) : W (cMIn neg tab c ρ m) P := by
  obtain ⟨d, m1, e, x, rfl, h2⟩ := h
  exact ⟨_, _, by unfold cMIn; simp only [e], h2⟩
end
end L3

set_option Elab.async false
set_option linter.all false
set_option maxRecDepth 100000
/-! keyword arguments left to their defaults, any number of them; xs.extend of a list or a tuple -/
namespace L3
open PySem PySem.Spec PyProof.Rows L2
def apM {α : Type} (k j : Nat) (pm : List Nat) (dvs us ws : List α) : List α := if us.length = k ∧ ws.length = j then pm.filterMap fun i => (us ++ ws ++ dvs)[i]? else []
structure Dfl (K : PySem.W.Frag) (fd : FuncData) (ps ks : List Str) (k j : Nat) (pm : List Nat) (ds : List D) : Prop where
  ex : ∃ (us0 : List Value) (vs0 : List V), KBinds K fd ps ks (apM k j pm us0) (apM k j pm vs0) ∧ ∀ ι H, RVs K ι H ds vs0
section
variable {X : Cx}
def extendAD : F3 := fun x ds m => match extendTD x ds m with
  | some r => some r
  | none => extendD x ds m
end
section
variable {m : M} {P : D → M → Prop}
end
end L3

set_option Elab.async false
set_option linter.all false
set_option maxRecDepth 100000
/-! return without a value -/
namespace L3
open PySem PySem.Spec PyProof.Rows L2
section
variable {X : Cx}
def cRetN : CS := fun _ m => some (.rt .non, m)
/-! repr of a text -/
def rpr2D (x : D) (m : M) : Option (D × M) := match x with
  | .str x => if (reprText x).length ≤ sizeLine then some (.str (reprText x), m) else none
  | x => rprD x m
end
end L3

set_option Elab.async false
set_option linter.all false
set_option maxRecDepth 100000
/-! try whose body raises nothing -/
namespace L2
open PySem PySem.Spec PyProof.Rows
section
variable {X : Cx}
end
end L2
namespace L3
open PySem PySem.Spec PyProof.Rows L2
section
variable {X : Cx}
end
end L3

set_option Elab.async false
set_option linter.all false
set_option maxRecDepth 100000
set_option maxHeartbeats 40000000
/-! a comprehension inside a comprehension -/
namespace L3
open PySem PySem.Spec PyProof.Rows L2
section
variable {X : Cx}
end
end L3
/-! a, b, .. = a list of that length -/
namespace L2
open PySem PySem.Spec PyProof.Rows
section
variable {X : Cx}
def gLstT (K : PySem.W.Frag) (n : Nat) (t : TGs) : TG := fun v σ H Q => ∃ a xs, v = .ref a ∧ SqL K H a xs ∧ xs.length = n ∧ t xs σ H Q
end
end L2
namespace L3
open PySem PySem.Spec PyProof.Rows L2
section
variable {X : Cx}
def cAsgL (n : Nat) (c : CE) (g : List D → En → Option En) : CS := fun ρ m => (c ρ m).bind fun p => (lstD p.1 p.2).bind fun ds => if ds.length = n then (g ds ρ).bind fun ρ' => some (.nx ρ', p.2) else none
end
end L3

set_option Elab.async false
set_option linter.all false
set_option maxRecDepth 100000
/-! repr of None -/
namespace L3
open PySem PySem.Spec PyProof.Rows L2
section
variable {X : Cx}
/-- repr of None, a text, whole numbers, truths, tuples, lists -/
def rpr3D (x : D) (m : M) : Option (D × M) := match x with
  | .non => some (.str "None", m)
  | x => rpr2D x m
end
end L3

set_option Elab.async false
set_option linter.all false
set_option maxRecDepth 100000
/-! xs.pop(i), xs.remove(text), d.update(e) -/
namespace L2
open PySem PySem.Spec PyProof.Rows
section
variable {X : Cx}
def rRemove : V → List V → Hp → VK → Prop := fun x vs H Q => ∃ (l : Addr) (ss : List Str) (y : Str), x = .ref l ∧ vs = [.str y] ∧ H l = some (.lst (ss.map V.str)) ∧ y ∈ ss ∧ Q .non (upd H l (.lst ((ss.erase y).map V.str)))
def isStr (y : Str) : Value → Bool
  | .str x _ => x.cps.toList == y.cps.toList
  | _ => false
def mrgK (kvs more : List (Key × V)) : List (Key × V) := more.foldl (fun acc kv => putK acc kv.1 kv.2) kvs
def tUpd (td ty : TE) : TE := fun σ H Q => td σ H fun x H1 => ∃ a, x = .ref a ∧ IsD H1 a ∧ ty σ H1 fun y H2 => ∃ b kvs more, y = .ref b ∧ a ≠ b ∧ H2 a = some (.dK kvs) ∧ H2 b = some (.dK more) ∧ kvs.length + more.length ≤ sizeLine ∧ Q .non (upd H2 a (.dK (mrgK kvs more)))
end
end L2
namespace L3
open PySem PySem.Spec PyProof.Rows L2
section
variable {X : Cx}
def popAtD : F3 := fun x ds m => match ds with
  | [.int i] => if -(2 ^ 63) ≤ i ∧ i < 2 ^ 63 then (lstN x m).bind fun p => (seqIndex? i p.2.length).bind fun k => (p.2[k]?).bind fun y => some (y, m.set p.1 (.lst (p.2.eraseIdx k))) else none
  | _ => none
def removeD : F3 := fun x ds m => match ds with
  | [.str y] => (lstN x m).bind fun p => (strsD p.2).bind fun ss => if y ∈ ss then some (.non, m.set p.1 (.lst ((ss.erase y).map D.str))) else none
  | _ => none
def mergeD (kvs more : List (Key × D)) : List (Key × D) := more.foldl (fun acc kv => putD acc kv.1 kv.2) kvs
def cUpd (o c : CE) : CE := fun ρ m => (o ρ m).bind fun p => match dicD p.1 p.2 with
  | some _ => (c ρ p.2).bind fun q => (dicD p.1 q.2).bind fun dk => (dicD q.1 q.2).bind fun de => if dk.1 ≠ de.1 ∧ dk.2.length + de.2.length ≤ sizeLine then some (.non, q.2.set dk.1 (.dic (mergeD dk.2 de.2))) else none
  | none => none
end
section
variable {ρ : En} {m : M} {P : D → M → Prop}
end
end L3

set_option Elab.async false
set_option linter.all false
set_option maxRecDepth 100000
set_option maxHeartbeats 40000000
namespace PySem
open Sem (wp)
open AutoSeq1 (wpAny_loadPart')
section
variable {prog : Program} {w : World} {A : Around} {E : Value → Shared → Prop} {s : Shared}
end
abbrev zipLH1 (h : Heap) (l1 : Addr) : Heap := h.push { cls := .type "list_iterator", data := .fields #[.ref l1, .int 0 0] }
abbrev zipLH2 (h : Heap) (l1 l2 : Addr) : Heap := (zipLH1 h l1).push { cls := .type "tuple_iterator", data := .fields #[.ref l2, .int 0 0] }
abbrev zipLH3 (h : Heap) (l1 l2 : Addr) : Heap := (zipLH2 h l1 l2).push { cls := .type "tuple", data := .seq #[.ref h.objs.size, .ref (zipLH1 h l1).objs.size] }
abbrev zipLH4 (h : Heap) (l1 l2 : Addr) : Heap := (zipLH3 h l1 l2).push { cls := .type "tuple", data := .seq #[.none, .none] }
abbrev zipLH5 (h : Heap) (l1 l2 : Addr) : Heap := (zipLH4 h l1 l2).push { cls := .type "zip", data := .fields #[.none, .bool false, .bool false, .ref (zipLH2 h l1 l2).objs.size, .ref (zipLH3 h l1 l2).objs.size] }
section
variable {prog : Program} {w : World} {A : Around} {E : Value → Shared → Prop} {s : Shared}
end
section
variable {prog : Program} {w : World} {A : Around} {E : Value → Shared → Prop} {s : Shared}
end
abbrev zipSH1 (h : Heap) (sx : Str) (tx : Tok) : Heap := h.push { cls := .type "str_ascii_iterator", data := .fields #[.str sx tx, .int 0 0] }
abbrev zipSH2 (h : Heap) (sx : Str) (tx : Tok) (l2 : Addr) : Heap := (zipSH1 h sx tx).push { cls := .type "tuple_iterator", data := .fields #[.ref l2, .int 0 0] }
abbrev zipSH3 (h : Heap) (sx : Str) (tx : Tok) (l2 : Addr) : Heap := (zipSH2 h sx tx l2).push { cls := .type "tuple", data := .seq #[.ref h.objs.size, .ref (zipSH1 h sx tx).objs.size] }
abbrev zipSH4 (h : Heap) (sx : Str) (tx : Tok) (l2 : Addr) : Heap := (zipSH3 h sx tx l2).push { cls := .type "tuple", data := .seq #[.none, .none] }
abbrev zipSH5 (h : Heap) (sx : Str) (tx : Tok) (l2 : Addr) : Heap := (zipSH4 h sx tx l2).push { cls := .type "zip", data := .fields #[.none, .bool false, .bool false, .ref (zipSH2 h sx tx l2).objs.size, .ref (zipSH3 h sx tx l2).objs.size] }
section
variable {prog : Program} {w : World} {A : Around} {E : Value → Shared → Prop} {s : Shared}
end
end PySem
namespace L2
open PySem PySem.Spec PyProof.Rows
def ItzL (K : PySem.W.Frag) (a b : Addr) : It :=
  ⟨fun i H => ∃ (xs ys : List V) (x y : V), SqL K H a xs ∧ SqT K H b ys ∧ xs[i]? = some x ∧ ys[i]? = some y,
    fun i H v H' => ∃ T x y, v = .ref T ∧ H T = none ∧ H' = upd H T (.tup [x, y]) ∧ (∀ xs, SqL K H a xs → xs[i]? = some x) ∧ ∀ ys, SqT K H b ys → ys[i]? = some y,
    fun i H => ∃ xs ys : List V, SqL K H a xs ∧ SqT K H b ys ∧ (xs.length ≤ i ∨ ys.length ≤ i)⟩
def iZipL (K : PySem.W.Frag) (ta : TA) : TI := fun σ H R => ta σ H fun vs H1 => ∃ a b xs ys, vs = [.ref a, .ref b] ∧ SqL K H1 a xs ∧ SqT K H1 b ys ∧ R (ItzL K a b) H1
def ItzS (K : PySem.W.Frag) (sx : Str) (b : Addr) : It :=
  ⟨fun i H => ∃ (ys : List V) (c : Nat) (y : V), SqT K H b ys ∧ sx.cps[i]? = some c ∧ ys[i]? = some y,
    fun i H v H' => ∃ T c y, v = .ref T ∧ H T = none ∧ H' = upd H T (.tup [.str ⟨#[c]⟩, y]) ∧ sx.cps[i]? = some c ∧ ∀ ys, SqT K H b ys → ys[i]? = some y,
    fun i H => ∃ ys : List V, SqT K H b ys ∧ (sx.cps.size ≤ i ∨ ys.length ≤ i)⟩
def iZipS (K : PySem.W.Frag) (ta : TA) : TI := fun σ H R => ta σ H fun vs H1 => ∃ sx b ys, vs = [.str sx, .ref b] ∧ sx.cps.all (· < 128) = true ∧ SqT K H1 b ys ∧ R (ItzS K sx b) H1
end L2

set_option Elab.async false
set_option linter.all false
set_option maxRecDepth 100000
/-! zip(text, tuple), zip(list, tuple) in the data layer -/
namespace L3
open PySem PySem.Spec PyProof.Rows L2
section
variable {X : Cx}
def sgD (x : Str) : List D := x.cps.toList.map fun c => D.str ⟨#[c]⟩
def zpD (xs ys : List D) : List D := List.zipWith (fun a b => D.tup [a, b]) xs ys
def iZipSD (cs : CA) : CI := fun ρ m => match cs ρ m with
  | some ([.str x, .tup ys], m') => if x.cps.all (· < 128) = true then some (zpD (sgD x) ys, none, m') else none
  | _ => none
def iZipLD (cs : CA) : CI := fun ρ m => match cs ρ m with
  | some ([.ref n, .tup ys], m') => match m'[n]? with
    | some (.lst xs) => some (zpD xs ys, some n, m')
    | _ => none
  | _ => none
end
end L3
namespace L3
open PySem L2
section
variable {ρ : En} {m : M} {R : Fl → M → Prop}
end
end L3

set_option Elab.async false
set_option linter.all false
set_option maxRecDepth 100000
/-! str(text) -/
namespace L3
open PySem PySem.Spec PyProof.Rows L2
section
variable {X : Cx}
def str2D (x : D) (m : M) : Option (D × M) := match x with
  | .str x => some (.str x, m)
  | x => strD x m
end
section
variable {m : M} {P : D → M → Prop}
end
end L3

set_option Elab.async false
set_option linter.all false
set_option maxRecDepth 100000
namespace L2
open PySem PySem.Spec PyProof.Rows
section
variable {prog : Program} {w : World} {A : Around} {R : Result → Shared → Prop} {s : Shared} {elt t0 i0 t1 i1 : Expr} {ifs0 ifs1 : List Expr} {scope : Scope} {pos : Pos} {it acc : Value} {env : Env}
end

section
variable {X : Cx}
def tSc2 {κ : Type} [DecidableEq κ] {P : Program} {w : World} (knd : PySem.KeyKind P w κ) (vk : κ → V) (wi : TI) (g : TG) (tt : TT) (wi1 : TI) (g1 : TG) (tt1 : TT) (te : TE) (vs vs1 : List Nat) : TE := fun σ H Q => wi σ H fun J H1 => ∀ D, H1 D = none → ∃ W : Nat → Nat → Hp → Prop, (∃ m, W 0 m (upd H1 D (.ext (sPhi knd D [])))) ∧ ∀ i m H, W i m H →
  (J.stop i H ∧ Q (.ref D) H) ∨ (J.go i H ∧ ∃ Nx : Hp → Prop, (∀ H', Nx H' → ∃ m', m' < m ∧ W (i + 1) m' H') ∧ ∀ x H', J.yld i H x H' → g x (wipe σ vs) H' fun σ2 H2 => wipe σ2 vs = wipe σ vs ∧ tt σ2 H2 fun b H3 =>
    if b = true then wi1 σ2 H3 fun J1 H4 => ∃ W1 : Nat → Nat → Hp → Prop, (∃ m, W1 0 m H4) ∧ ∀ j k H, W1 j k H →
      (J1.stop j H ∧ Nx H) ∨ (J1.go j H ∧ ∃ Nx1 : Hp → Prop, (∀ H', Nx1 H' → ∃ k', k' < k ∧ W1 (j + 1) k' H') ∧ ∀ x H', J1.yld j H x H' → g1 x (wipe σ2 vs1) H' fun σ3 H5 => wipe σ3 vs1 = wipe σ2 vs1 ∧ tt1 σ3 H5 fun b H6 =>
        if b = true then te σ3 H6 fun y H7 => ∃ acc k, y = vk k ∧ H7 D = some (.ext (sPhi knd D acc)) ∧ acc.length + 1 < scanBound ∧ Nx1 (upd H7 D (.ext (sPhi knd D (step_dedup acc k)))) else Nx1 H6)
    else Nx H3)
end
end L2
namespace L3
open PySem PySem.Spec PyProof.Rows L2
section
variable {κ : Type} [DecidableEq κ]
noncomputable def cSc2 (kk : KK κ) (ci : CI) (g : D → En → Option En) (tt : CT) (ci1 : CI) (g1 : D → En → Option En) (tt1 : CT) (ce : CE) (vs vs1 : List Nat) : En → M → Option (List κ × M) := fun ρ m => (ci ρ m).bind fun p =>
  (lc2L p.2.1 p.2.2 g tt ci1 g1 tt1 ce vs1 (wipeE ρ vs) p.1 p.2.2).bind fun q => (kds kk q.1).bind fun ks => if ks.length + 1 < scanBound then some (ks, q.2) else none
end
section
variable {X : Cx}
noncomputable def cSIC2 (c : En → M → Option (List Int × M)) : CE := cSIC c
end
end L3

set_option Elab.async false
set_option linter.all false
set_option maxRecDepth 100000
namespace PySem
open Sem (wp)
section
variable {prog : Program} {w : World} {A : Around} {E : Value → Shared → Prop} {s : Shared}
end
section
variable {prog : Program} {w : World} {A : Around} {R : Result → Shared → Prop} {I : Addr} {fp wr : List Addr} {n : Nat} {P : Nat → Value → Prop} {St : Nat → Heap → Prop} {kw : List (Str × Value)}
end
section
variable {prog : Program} {w : World} {A : Around} {E : Value → Shared → Prop} {s : Shared}
end
section
variable {prog : Program} {w : World} {A : Around} {E : Value → Shared → Prop} {s : Shared} {l : Addr} {xs : Array (Int × Tok)}
end
end PySem
namespace L2
open PySem PySem.Spec PyProof.Rows
section
variable {prog : Program} {w : World} {A : Around} {E : Value → Shared → Prop} {s : Shared} {l : Addr} {its : List Value} {ns : List Int} {Q : Value → Shared → Prop}
end
section
variable {X : Cx}
def rMaxD (K : PySem.W.Frag) : List V → List V → Hp → VK → Prop := fun vs zs H Q => ∃ (a : Addr) (ns : List Int) (d : V), vs = [V.ref a] ∧ zs = [d] ∧ SqL K H a (ns.map V.int) ∧ (ns = [] → Q d H) ∧ (0 < ns.length → ∀ m, m ∈ ns → (∀ y, y ∈ ns → y ≤ m) → Q (.int m) H)
def tMaxD (K : PySem.W.Frag) (t tk : TA) : TE := fun σ H Q => t σ H fun vs H1 => tk σ H1 fun zs H2 => rMaxD K vs zs H2 Q
end
end L2
namespace L3
open PySem PySem.Spec PyProof.Rows L2
section
variable {X : Cx}
def cMaxD (c ck : CE) : CE := fun ρ m => (c ρ m).bind fun p => (ck ρ p.2).bind fun q => (lstD p.1 q.2).bind fun ds => (intsD ds).bind fun ns => match ns.max? with
  | some i => some (.int i, q.2)
  | none => some (q.1, q.2)
end
section
variable {ρ : En} {m : M} {P : D → M → Prop}
end
end L3

set_option Elab.async false
set_option linter.all false
set_option maxRecDepth 100000
/-! text < text, text.upper(), tuple(text) -/
namespace L2
open PySem PySem.Spec PyProof.Rows
open AutoSeq1 (wpAny_loadPart')
section
variable {X : Cx}
def signs (x : Str) : List V := x.cps.toList.map fun c => V.str ⟨#[c]⟩
end
end L2
namespace L3
open PySem L2
section
variable {X : Cx}
/-! ### text < text -/
def fLtS : F2 := fun x y m => match x, y with
  | .str a, .str b => some (.bl (decide (a.cps.toList < b.cps.toList)), m)
  | _, _ => none
/-! ### text.upper() -/
def cUp (c : CE) : CE := fun ρ m => (c ρ m).bind fun p => match p.1 with
  | .str a => if a.length ≤ 5592405 then some (.str (Txt.upper a), p.2) else none
  | _ => none
/-! ### tuple(text) -/
def tupleS (x : D) (m : M) : Option (D × M) := match x with
  | .str a => if a.cps.size ≤ sizeLine then some (.tup (a.cps.toList.map fun c => D.str ⟨#[c]⟩), m) else none
  | _ => none
variable {ρ : En} {m : M} {P : D → M → Prop}
end
end L3

set_option Elab.async false
set_option linter.all false
set_option maxRecDepth 100000
/-! objects: e.f, e.f = v -/
namespace L3
open PySem PySem.Spec PyProof.Rows L2
def putFD (f : Str) (d : D) : List (Str × D) → List (Str × D)
  | [] => [(f, d)]
  | (g, x) :: r => if g = f then (g, d) :: r else (g, x) :: putFD f d r
theorem RFs.look {K : PySem.W.Frag} {ι : List Addr} {H : Hp} {f : Str} {d : D} : ∀ {fs : List (Str × D)} {vs : List (Str × V)}, RFs K ι H fs vs → fs.lookup f = some d → ∃ v, vs.lookup f = some v ∧ RV K ι H d v
  | [], [], _, e => by cases e
  | [], _ :: _, h, _ => h.elim
  | _ :: _, [], h, _ => h.elim
  | (g, x) :: fs, (g', y) :: vs, ⟨h1, h2, h3⟩, e => by
    cases (show g = g' from h1)
    rw [List.lookup_cons] at e ⊢
    cases hg : (f == g) with
    | true => rw [hg] at e; cases e; exact ⟨y, rfl, h2⟩
    | false => rw [hg] at e; exact RFs.look h3 e
def insD (x : D) (m : M) : Option (Nat × List Str × List (Str × D)) := match x with
  | .ref n => match m[n]? with
    | some (.ins nf fs) => some (n, nf, fs)
    | _ => none
  | _ => none
section
variable {X : Cx}
def cFld (f : Str) (c : CE) : CE := fun ρ m => (c ρ m).bind fun p => (insD p.1 p.2).bind fun q => if f ∈ q.2.1 then (q.2.2.lookup f).bind fun d => some (d, p.2) else none
def cPutFld (f : Str) (o v : CE) : CS := fun ρ m => (v ρ m).bind fun y => (o ρ y.2).bind fun x => (insD x.1 x.2).bind fun q => if f ∈ q.2.1 ∧ q.2.2.length < 1000 then some (.nx ρ, x.2.set q.1 (.ins q.2.1 (putFD f y.1 q.2.2))) else none
/-- a class's call: a new object, made by its __init__ -/
def cNew (nf : List Str) (F : FD) (cs : CA) : CE := fun ρ m => (cs ρ m).bind fun p => match F (.ref p.2.length :: p.1) (p.2 ++ [.ins nf []]) with
  | some (.non, m') => some (.ref p.2.length, m')
  | _ => none
/-- e.f += j -/
def cAugI (f : Str) (j : Int) (o : CE) : CS := fun ρ m => (o ρ m).bind fun x => (insD x.1 x.2).bind fun q => if f ∈ q.2.1 ∧ q.2.2.length < 1000 then match q.2.2.lookup f with
  | some (.int i) => some (.nx ρ, x.2.set q.1 (.ins q.2.1 (putFD f (.int (i + j)) q.2.2)))
  | _ => none else none
variable {ρ : En} {m : M} {P : D → M → Prop} {R : Fl → M → Prop}
end
end L3

set_option Elab.async false
set_option linter.all false
set_option maxRecDepth 100000
/-! errors: raised, passed on, caught -/
namespace L2
open PySem PySem.Spec PyProof.Rows
section
variable {X : Cx}
theorem PA.nox {es : List Expr} {t : TA} (h : PA X.nox es t) : PA X es t := fun pos pins s σ H Q I hw =>
  wpAny_mono (h pos pins s σ H Q (I.wish _) hw) (fun _ _ ⟨v, H', I', r, q⟩ => ⟨v, H', I'.unwish, r, q⟩) fun _ _ z => False.elim z
theorem PK.nox {es : List Keyword} {t : TA} (h : PK X.nox es t) : PK X es t := fun pos pins s σ H Q I hw =>
  wpAny_mono (h pos pins s σ H Q (I.wish _) hw) (fun _ _ ⟨v, H', I', r, q⟩ => ⟨v, H', I'.unwish, r, q⟩) fun _ _ z => False.elim z
theorem pa_never {es : List Expr} : PA X es (fun _ _ _ => False) := fun _ _ _ _ _ _ _ h => h.elim
theorem Wish.mono {σ : St} {E E' : XK} (w : Wish X σ E) (h : ∀ c a H, E' c a H → E c a H) : Wish X σ E' := fun pins H s H' s' a C dx I F e => w pins H s H' s' a C dx I F (h _ _ _ e)
/-- keywords: a callee that raises -/
theorem run_fnkX {k : Nat} {f : Addr} {fd : FuncData} {ps ks : List Str} {sp : Sp} {E : XK} {g : List Value → List Value → List Value} {gV : List V → List V → List V} {pins : List (Addr × Obj)} {σ : St} {H : Hp} {s : Shared} {Q : VK} {us ws : List Value} {vs zs : List V} (F : FnOk X.prog X.w X.K X.mg X.base (CXE X.prog X.w) k f fd ps sp) (hr : Room k X.A) (hb : KBinds X.K fd ps ks g gV) (hx : Wish X σ E)
    (I : Inv X pins σ H s) (r : Vals vs us) (rz : Vals zs ws) (h : sp (gV vs zs) H Q E) : wpAny (model X.prog X.w) X.A (call (.ref f) us (ks.zip ws)) (EP X pins σ Q) X.xe s := by
  have r2 := hb.rel r rz
  have hl : (g us ws).length = ps.length := by rw [← r2.length]; exact F.len _ _ _ _ h
  refine wpAny_call (codeAny_mono (F.run X.A X.stack s H ⟨us, ks.zip ws⟩ (g us ws) (gV vs zs) Q E hr I.env0 (hb.to s us ws I.kIn hl) r2 h) fun r s' hq => ?_)
  cases r with
  | error e =>
    obtain ⟨a, C, dx, H', rfl, F, hE⟩ := hq
    exact hx pins H s H' s' a C dx I F hE
  | ok fl =>
    cases fl with
    | ret u => exact I.after hq
    | next => exact False.elim hq
    | brk => exact False.elim hq
    | cont => exact False.elim hq
def tCallKX (X : Cx) (sp : Sp) (gV : List V → List V → List V) (t tk : TA) : TE := fun σ H Q => t σ H fun vs H1 => tk σ H1 fun zs H2 => ∃ E, Wish X σ E ∧ sp (gV vs zs) H2 Q E
theorem pe_callKX {k : Nat} {f : Addr} {fd : FuncData} {ps ks : List Str} {sp : Sp} {x : Str} {p pos : Pos} {e : Expr} {es : List Expr} {kws : List Keyword} {t tk : TA} {g : List Value → List Value → List Value} {gV : List V → List V → List V}
    (F : FnOk X.prog X.w X.K X.mg X.base (CXE X.prog X.w) k f fd ps sp) (hr : Room k X.A) (hg : Gl X x) (hm : X.mg x = some (.ref f)) (hk : PySem.W.keepIn X.K (.ref f) = true) (hb : KBinds X.K fd ps ks g gV)
    (ha : PA X (e :: es) t) (hkw : PK X kws tk) (hall : (backToKw pos (keywordEach kws X.env)).all (·.1.isSome) = true := by rfl) (hks : (backToKw pos (keywordEach kws X.env)).filterMap (·.1) = ks := by rfl)
    (hdb : (x == ("__debug__" : Str)) = false := by decide) (he : starEach (e :: es) X.env = (false, eval e X.env) :: starEach es X.env := by rfl)
    (hpl : ((backTo pos (starEach (e :: es) X.env)).any (·.1) || (backToKw pos (keywordEach kws X.env)).any (·.1.isNone)) = false := by rfl) :
    PE X (.Call (.Name x p) (e :: es) kws pos) (tCallKX X sp gV t tk) := by
  intro pins s σ H Q I h
  refine wpAny_Call_Name_kw (ld_glob I hg hm ?_ hdb)
  refine PySem.W.callWith_KW (h₀ := X.base) I.ok.mod.kin hk hall (thn (ha pos pins s σ H _ I h) fun us s1 ⟨vs, H1, I1, r, q⟩ => ?_) hpl he
  refine thn (hkw pos pins s1 σ H1 _ I1 q) fun ws s2 ⟨zs, H2, I2, rz, E, hw, q2⟩ => ⟨I2.kIn, ?_⟩
  rw [hks]
  exact run_fnkX F hr hb hw I2 r rz q2
end
section
variable {P : Program} {w : World} {K : PySem.W.Frag} {mg : Str → Option Value} {base : Heap}
/-- a def that raises -/
theorem Fun.okX {x qual : Str} {st : Stmt} {f : Addr} {fd : FuncData} {N ps : List Str} {k : Nat} {sp : Sp} (F : Fun K x qual st f fd) (S : FnScope N ps (defScope st)) (len : ∀ vs H Q E, sp vs H Q E → vs.length = ps.length)
    (hbody : ∀ (cdv : Value) (A : Around) (outer : List Env) (s : Shared) (H : Hp) (vs : List V) (Q : VK) (E : XK), Room k (A.deeper (envOfC qual (defScope st) s.heap.objs.size f cdv)) → sp vs H Q E →
      ∃ t, PSs (cxOf (CXE P w) P w K mg base N qual (defScope st) f cdv A outer s H E) (defBody st) t ∧ t { nx := fun _ H' => Q .non H', rt := Q } (start N vs) H) : FnOk P w K mg base (CXE P w) (k + 1) f fd ps sp := by
  obtain ⟨oc, od, kV, doc, pm, an, cdv, ct, osl, rfl, lk, hcd⟩ := F.ex
  refine fn_of lk hcd S len fun A outer s H vs Q E hr hsp => ?_
  exact hbody cdv A outer s H vs Q E hr hsp
end
end L2
namespace L3
open PySem PySem.Spec PyProof.Rows L2
/-- the exception d lies behind -/
def EX (K : PySem.W.Frag) (ι : List Addr) (H : Hp) (d : D) (m' : M) : XK := fun _ ao H' => ∃ ι' a, ao = some a ∧ Gr ι ι' H H' ∧ RM K ι' m' H' ∧ RV K ι' H' d (.ref a)
theorem EX.gr {K : PySem.W.Frag} {ι ι1 : List Addr} {H H1 : Hp} {d : D} {m' : M} (g : Gr ι ι1 H H1) : ∀ c a H', EX K ι1 H1 d m' c a H' → EX K ι H d m' c a H' := fun _ _ _ ⟨ι', a, e, g', r⟩ => ⟨ι', a, e, g.trans g', r⟩
/-- what a def promises where it raises -/
def spX (K : PySem.W.Frag) (n : Nat) (R : FD) : Sp := fun vs H _ E => ∃ (ι : List Addr) (ds : List D) (m : M) (d : D) (m' : M), R ds m = some (d, m') ∧ ds.length = n ∧ RM K ι m H ∧ RVs K ι H ds vs ∧ ∀ c a H', EX K ι H d m' c a H' → E c a H'
theorem spX_len {K : PySem.W.Frag} {n : Nat} {F : FD} : ∀ vs H Q E, spX K n F vs H Q E → vs.length = n := fun vs H Q E ⟨ι, ds, m, d, m', _, hn, _, hv, _⟩ => by rw [← hv.length]; exact hn
structure LRE (X : Cx) (e : Expr) (r : CE) : Prop where
  ex : ∃ t, PE X e t ∧ ∀ (ρ : En) (m : M) (d : D) (m' : M) (ι : List Addr) (σ : L2.St) (H : Hp) (Q : VK), r ρ m = some (d, m') → RM X.K ι m H → RS X.K ι H σ ρ → Wish X σ (EX X.K ι H d m') → t σ H Q
structure LRA (X : Cx) (es : List Expr) (r : CE) : Prop where
  ex : ∃ t, PA X es t ∧ ∀ (ρ : En) (m : M) (d : D) (m' : M) (ι : List Addr) (σ : L2.St) (H : Hp) (Q : List V → Hp → Prop), r ρ m = some (d, m') → RM X.K ι m H → RS X.K ι H σ ρ → Wish X σ (EX X.K ι H d m') → t σ H Q
structure LR1 (X : Cx) (any : Prop) (st : Stmt) (r : CE) : Prop where
  ex : ∃ t, PS X st t ∧ ∀ (ρ : En) (m : M) (d : D) (m' : M) (ι : List Addr) (σ : L2.St) (H : Hp) (Dn : Ends), r ρ m = some (d, m') → RM X.K ι m H → RS X.K ι H σ ρ → Wish X σ (EX X.K ι H d m') → (any → ∀ σ', Wish X σ' (EX X.K ι H d m')) → t Dn σ H
structure LR (X : Cx) (any : Prop) (st : List Stmt) (r : CE) : Prop where
  ex : ∃ t, PSs X st t ∧ ∀ (ρ : En) (m : M) (d : D) (m' : M) (ι : List Addr) (σ : L2.St) (H : Hp) (Dn : Ends), r ρ m = some (d, m') → RM X.K ι m H → RS X.K ι H σ ρ → Wish X σ (EX X.K ι H d m') → (any → ∀ σ', Wish X σ' (EX X.K ι H d m')) → t Dn σ H
def rNo : CE := fun _ _ => none
def rOr (a b : CE) : CE := fun ρ m => match a ρ m with
  | some x => some x
  | none => b ρ m
def rIf (c : CT) (a b : CE) : CE := fun ρ m => (c ρ m).bind fun p => if p.1 = true then a ρ p.2 else b ρ p.2
def rSeq (c : CS) (r : CE) : CE := fun ρ m => match c ρ m with
  | some (.nx ρ1, m1) => r ρ1 m1
  | _ => none
def rThen (c : CE) (r : CE) : CE := fun ρ m => (c ρ m).bind fun p => r ρ p.2
section
variable {X : Cx} {any : Prop}
theorem lr_no {st : List Stmt} : LR X any st rNo := ⟨_, pss_never, fun _ _ _ _ _ _ _ _ e => nomatch e⟩
theorem lr_head {st : Stmt} {rest : List Stmt} {a : CE} (h : LR1 X any st a) : LR X any (st :: rest) a := by
  obtain ⟨t, pt, ht⟩ := h.ex
  exact ⟨_, pss_cons pt pss_never, fun ρ m d m' ι σ H D e r s w wa => ht ρ m d m' ι σ H _ e r s w wa⟩
theorem lr1_if {c : Expr} {a b : List Stmt} {cc : CT} {ra rb : CE} {pos : Pos} (hc : LT X.nox c cc) (ha : LR X any a ra) (hb : LR X any b rb) : LR1 X any (.If c a b pos) (rIf cc ra rb) := by
  obtain ⟨t, pt, ht⟩ := hc.ex
  obtain ⟨u, pu, hu⟩ := ha.ex
  obtain ⟨w, pw, hw⟩ := hb.ex
  refine ⟨_, ps_if pt.nox pu pw, fun ρ m d m' ι σ H D e r s wi wa => ?_⟩
  unfold rIf at e
  obtain ⟨⟨x, m1⟩, e1, e⟩ := Option.bind_eq_some_iff.mp e
  refine ht ρ m x m1 ι σ H _ e1 r s fun ι1 H1 g1 r1 => ?_
  cases x with
  | true => exact hu ρ m1 d m' ι1 σ H1 D e r1 (s.gr r g1) (wi.mono (EX.gr g1)) fun z σ' => (wa z σ').mono (EX.gr g1)
  | false => exact hw ρ m1 d m' ι1 σ H1 D e r1 (s.gr r g1) (wi.mono (EX.gr g1)) fun z σ' => (wa z σ').mono (EX.gr g1)
theorem lr1_ret {e : Expr} {c : CE} {pos : Pos} (h : LRE X e c) : LR1 X any (.Return (some e) pos) c := by
  obtain ⟨t, pt, ht⟩ := h.ex
  exact ⟨_, ps_ret pt, fun ρ m d m' ι σ H D e r s w _ => ht ρ m d m' ι σ H _ e r s w⟩
theorem lra_head {e : Expr} {es : List Expr} {c : CE} (h : LRE X e c) (hst : starEach (e :: es) X.env = (false, eval e X.env) :: starEach es X.env := by rfl) : LRA X (e :: es) c := by
  obtain ⟨t, pt, ht⟩ := h.ex
  exact ⟨_, pa_cons pt pa_never hst, fun ρ m d m' ι σ H Q e r s w => ht ρ m d m' ι σ H _ e r s w⟩
theorem lra_cons {e : Expr} {es : List Expr} {c r : CE} (h : LE X.nox e c) (hs : LRA X es r) (hst : starEach (e :: es) X.env = (false, eval e X.env) :: starEach es X.env := by rfl) : LRA X (e :: es) (rThen c r) := by
  obtain ⟨t, pt, ht⟩ := h.ex
  obtain ⟨u, pu, hu⟩ := hs.ex
  refine ⟨_, pa_cons pt.nox pu hst, fun ρ m d m' ι σ H Q e r s w => ?_⟩
  unfold rThen at e
  obtain ⟨⟨x, m1⟩, e1, e⟩ := Option.bind_eq_some_iff.mp e
  refine ht ρ m x m1 ι σ H _ e1 r s fun ι1 H1 v g1 r1 h1 => ?_
  exact hu ρ m1 d m' ι1 σ H1 _ e r1 (s.gr r g1) (w.mono (EX.gr g1))
theorem lre_tup {es : List Expr} {r : CE} {x1} {pos : Pos} (h : LRA X es r) : LRE X (.Tuple es x1 pos) r := by
  obtain ⟨t, pt, ht⟩ := h.ex
  exact ⟨_, pe_tup pt, fun ρ m d m' ι σ H Q e r s w => ht ρ m d m' ι σ H _ e r s w⟩
theorem lre_callK {n k : Nat} {F : FD} {f : Addr} {fd : FuncData} {ps ks : List Str} {x : Str} {e : Expr} {es : List Expr} {kws : List Keyword} {cs ck : CA} {p pos : Pos} {g : List Value → List Value → List Value} {gV : List V → List V → List V} {gD : List D → List D → List D}
    (G : FnOk X.prog X.w X.K X.mg X.base (CXE X.prog X.w) k f fd ps (spX X.K n F)) (hr : Room k X.A) (hg : Gl X x) (hm : X.mg x = some (.ref f)) (hk : PySem.W.keepIn X.K (.ref f) = true)
    (hb : KBinds X.K fd ps ks g gV) (hp : Perm3 n gD gV) (ha : LA X.nox (e :: es) cs) (hkw : LK X.nox kws ck) (hall : (backToKw pos (keywordEach kws X.env)).all (·.1.isSome) = true := by rfl) (hks : (backToKw pos (keywordEach kws X.env)).filterMap (·.1) = ks := by rfl)
    (hdb : (x == ("__debug__" : Str)) = false := by decide) (he : starEach (e :: es) X.env = (false, eval e X.env) :: starEach es X.env := by rfl)
    (hpl : ((backTo pos (starEach (e :: es) X.env)).any (·.1) || (backToKw pos (keywordEach kws X.env)).any (·.1.isNone)) = false := by rfl) : LRE X (.Call (.Name x p) (e :: es) kws pos) (cCallK n F gD cs ck) := by
  obtain ⟨t, pt, ht⟩ := ha.ex
  obtain ⟨u, pu, hu⟩ := hkw.ex
  refine ⟨_, pe_callKX G hr hg hm hk hb pt.nox pu.nox hall hks hdb he hpl, fun ρ m d m' ι σ H Q e r s w => ?_⟩
  unfold cCallK at e
  obtain ⟨⟨ds, m1⟩, e1, e⟩ := Option.bind_eq_some_iff.mp e
  obtain ⟨⟨es, m2⟩, e2, e⟩ := Option.bind_eq_some_iff.mp e
  split at e
  · rename_i hl
    refine ht ρ m ds m1 ι σ H _ e1 r s fun ι1 H1 vs g1 r1 h1 => ?_
    refine hu ρ m1 es m2 ι1 σ H1 _ e2 r1 (s.gr r g1) fun ι2 H2 ws g2 r2 h2 => ?_
    exact ⟨_, w, ι2, gD ds es, m2, d, m', e, hl, r2, hp.rel (h1.gr r1 g2) h2, EX.gr (g1.trans g2)⟩
  · cases e
end
section
variable {P : Program} {w : World} {K : PySem.W.Frag} {mg : Str → Option Value} {base : Heap}
def runR (n : Nat) (r : CE) : FD := fun ds m => r (enS n ds) m
theorem fnx_def {x qual : Str} {st : Stmt} {f : Addr} {fd : FuncData} {N ps : List Str} {k : Nat} {r : CE} (F : Fun K x qual st f fd) (S : FnScope N ps (defScope st))
    (h : ∀ (cdv : Value) (A : Around) (outer : List Env) (s : Shared) (H : Hp) (E : XK), Room k (A.deeper (envOfC qual (defScope st) s.heap.objs.size f cdv)) → LR (cxOf (CXE P w) P w K mg base N qual (defScope st) f cdv A outer s H E) True (defBody st) r) :
    FnOk P w K mg base (CXE P w) (k + 1) f fd ps (spX K ps.length (runR N.length r)) := by
  refine F.okX S spX_len fun cdv A outer s H vs Q E hr hsp => ?_
  obtain ⟨ι, ds, m, d, m', e, hn, rm, hv, kk⟩ := hsp
  obtain ⟨t, pt, ht⟩ := (h cdv A outer s H E hr).ex
  exact ⟨t, pt, ht _ m d m' ι _ H _ e rm (rs_start hv) (wish_def.mono kk) fun _ σ' => wish_def.mono kk⟩
end
end L3

set_option Elab.async false
set_option linter.all false
set_option maxRecDepth 100000
/-! errors: raise, try, isinstance, fields -/
namespace L3
open PySem PySem.Spec PyProof.Rows L2
/-- what an error's __init__ promises: its fields -/
def spI (K : PySem.W.Frag) (fs : List Str) : Sp := fun vs H Q _ => ∃ a C ws, vs = .ref a :: ws ∧ ws.length = fs.length ∧ H a = some (XI a C none) ∧ XCls K C ∧ (∀ f ∈ fs, NoAttr K C f) ∧
  ∀ dx, H dx = none → dx ≠ a → Q .non (upd (upd H dx (.xd (fs.zip ws))) a (XI a C (some dx)))
section
variable {P : Program} {w : World} {K : PySem.W.Frag} {mg : Str → Option Value} {base : Heap}
theorem init1 {x qual f1 : Str} {st : Stmt} {f : Addr} {fd : FuncData} {N ps : List Str} {k : Nat} (F : Fun K x qual st f fd) (S : FnScope N ps (defScope st)) (hp : ps.length = 2) (hN : N.length = 2)
    (h : ∀ (cdv : Value) (A : Around) (outer : List Env) (s : Shared) (H : Hp) (E : XK), PSs (cxOf CX0 P w K mg base N qual (defScope st) f cdv A outer s H E).nox (defBody st) (sXF K (tVar 0) (tVar 1) f1)) :
    FnOk P w K mg base CX0 (k + 1) f fd ps (spI K [f1]) := by
  refine F.ok S (fun vs H Q E ⟨a, C, ws, e, hl, _⟩ => by rw [e, List.length_cons, hl, hp]; rfl) fun cdv A outer s H vs Q E hr hsp => ?_
  obtain ⟨a, C, ws, rfl, hl, ha, c, hn, q⟩ := hsp
  obtain ⟨w1, rfl⟩ : ∃ w1, ws = [w1] := by cases ws with | nil => cases hl | cons w1 t => cases t with | nil => exact ⟨w1, rfl⟩ | cons _ _ => simp at hl
  refine ⟨_, h cdv A outer s H E, ?_⟩
  have s0 : (L2.start N [V.ref a, w1])[0]? = some (some (V.ref a)) := by unfold L2.start; rfl
  have s1 : (L2.start N [V.ref a, w1])[1]? = some (some w1) := by unfold L2.start; rfl
  exact ⟨w1, s1, .ref a, s0, a, C, rfl, c, hn _ (List.mem_cons_self ..), .inl ⟨ha, fun dx hd hne => q dx hd hne⟩⟩
/-- a class of error that is raised -/
structure XR (P : Program) (w : World) (K : PySem.W.Frag) (mg : Str → Option Value) (base : Heap) (cn : Str) (fs : List Str) : Prop where
  ex : ∃ C fI fd ps, XMk K C fI ∧ FnOk P w K mg base CX0 1 fI fd ps (spI K fs) ∧ Binds K fd ps [] ∧ mg cn = some (.ref C) ∧ PySem.W.nsIn K mainGlobals cn = some (some (.ref C)) ∧ XCls K C ∧ ∀ f ∈ fs, NoAttr K C f
end
def cRaise (cn : Str) (fs : List Str) (cs : CA) : CE := fun ρ m => (cs ρ m).bind fun p => if p.1.length = fs.length ∧ p.1.length ≤ 1000 then some (.ref p.2.length, p.2 ++ [.exc cn (fs.zip p.1)]) else none
theorem rfs_zip {K : PySem.W.Frag} {ι : List Addr} {H : Hp} : ∀ {fs : List Str} {ds : List D} {vs : List V}, RVs K ι H ds vs → RFs K ι H (fs.zip ds) (fs.zip vs)
  | [], ds, vs, _ => by simp [RFs]
  | _ :: _, [], _, h => by cases h; simp [RFs]
  | f :: fs, d :: ds, _, h => by
    cases h with
    | cons r t => exact ⟨rfl, r, rfs_zip t⟩
section
variable {X : Cx} {any : Prop}
theorem lr1_raise {cn : Str} {fs : List Str} {p cpos pos : Pos} {e : Expr} {es : List Expr} {cs : CA} (R : XR X.prog X.w X.K X.mg X.base cn fs) {k : Nat} (hr : Room (k + 2) X.A) (hcalm : X.calm = true) (hg : Gl X cn)
    (ha : LA X.nox (e :: es) cs) (hdb : (cn == ("__debug__" : Str)) = false := by decide) (he : starEach (e :: es) X.env = (false, eval e X.env) :: starEach es X.env := by rfl) (hpl : (backTo cpos (starEach es X.env)).any (·.1) = false := by rfl) :
    LR1 X any (.Raise (some (.Call (.Name cn p) (e :: es) [] cpos)) none pos) (cRaise cn fs cs) := by
  obtain ⟨C, fI, fd, ps, M, F, hb, hm, hns, c, hn⟩ := R.ex
  obtain ⟨t, pt, ht⟩ := ha.ex
  refine ⟨_, ps_raise M F (hr.mono (by omega)) hcalm hg hm hb pt.nox hdb he hpl, fun ρ m d m' ι σ H D e r s wi _ => ?_⟩
  unfold cRaise at e
  obtain ⟨⟨ds, m1⟩, e1, e⟩ := Option.bind_eq_some_iff.mp e
  dsimp only at e
  split at e
  · rename_i hl
    cases e
    refine ht ρ m ds m1 ι σ H _ e1 r s fun ι1 H1 vs g1 r1 h1 => ?_
    refine ⟨by rw [← h1.length]; exact hl.2, _, wi, fun a hna => ?_⟩
    refine ⟨a, C, vs, rfl, by rw [← h1.length]; exact hl.1, upd_same, c, hn, fun dx hd hne => ⟨rfl, dx, upd_same, ?_⟩⟩
    have hd1 : H1 dx = none := by rw [upd_ne hne] at hd; exact hd
    have e3 : upd (upd (upd (upd H1 a (XI a C none)) dx (.xd (fs.zip vs))) a (XI a C (some dx))) a (XO a C dx) = upd (upd H1 dx (.xd (fs.zip vs))) a (XO a C dx) := by
      rw [upd_upd]
      funext b
      by_cases hb : b = a
      · subst hb; rw [upd_same, upd_same]
      · rw [upd_ne hb, upd_ne hb]
        by_cases hb2 : b = dx
        · subst hb2; rw [upd_same, upd_same]
        · rw [upd_ne hb2, upd_ne hb2, upd_ne hb]
    rw [e3]
    have hna2 : (upd H1 dx (.xd (fs.zip vs))) a = none := by rw [upd_ne (Ne.symm hne)]; exact hna
    have g2 := gr_new r1 hd1 (.xd (fs.zip vs))
    have r2 := rm_new r1 hd1 (.xd (fs.zip vs))
    have g3 := gr_push r2 hna2 (XO a C dx)
    have r3 : RM X.K (ι1 ++ [a]) (m1 ++ [.exc cn (fs.zip ds)]) (upd (upd H1 dx (.xd (fs.zip vs))) a (XO a C dx)) := rm_push r2 hna2 ⟨C, dx, fs.zip vs, upd_same, by rw [upd_ne hne, upd_same], hns, rfs_zip ((h1.gr r1 g2).gr r2 g3)⟩
    exact ⟨ι1 ++ [a], a, rfl, (g1.trans g2).trans g3, r3, .ref (at_push r1)⟩
  · cases e
end
/-! ### what is known of the classes -/
/-- of which of the raised classes cn the class cls is one above, or itself -/
structure XTab (K : PySem.W.Frag) (mg : Str → Option Value) (cls : Str) (tab : List (Str × Bool)) : Prop where
  ex : ∃ C', mg cls = some (.ref C') ∧ excInI K C' = true ∧ ∀ cn b, tab.lookup cn = some b → ∃ C, PySem.W.nsIn K mainGlobals cn = some (some (.ref C)) ∧ XIs K C ∧ PySem.W.mroIn K C (.ref C') = some b ∧ PySem.W.kitOne K (.ref C) (.ref C') = some b
def XFd (K : PySem.W.Frag) (f : Str) (cns : List Str) : Prop := ∀ cn ∈ cns, ∃ C, PySem.W.nsIn K mainGlobals cn = some (some (.ref C)) ∧ XCls K C ∧ NoAttr K C f
def excD (x : D) (m : M) : Option (Str × List (Str × D)) := match x with
  | .ref n => match m[n]? with
    | some (.exc cn fs) => some (cn, fs)
    | _ => none
  | _ => none
theorem exc_of {K : PySem.W.Frag} {ι : List Addr} {H : Hp} {m : M} {x : D} {v : V} {cn : Str} {fs : List (Str × D)} (rm : RM K ι m H) (rx : RV K ι H x v) (e : excD x m = some (cn, fs)) : ∃ a C dx vs, v = .ref a ∧ H a = some (XO a C dx) ∧ H dx = some (.xd vs) ∧ PySem.W.nsIn K mainGlobals cn = some (some (.ref C)) ∧ RFs K ι H fs vs := by
  unfold excD at e
  split at e
  · split at e
    · rename_i hm
      cases e
      cases rx with
      | ref h =>
        obtain ⟨C, dx, vs, h1, h2, h3, h4⟩ := rm.ob _ _ _ hm h
        exact ⟨_, C, dx, vs, rfl, h1, h2, h3, h4⟩
    · cases e
  · cases e
section
variable {X : Cx}
def cXFld (f : Str) (cns : List Str) (c : CE) : CE := fun ρ m => (c ρ m).bind fun p => (excD p.1 p.2).bind fun q => if q.1 ∈ cns then (q.2.lookup f).bind fun d => some (d, p.2) else none
theorem le_xfld {e : Expr} {f : Str} {cns : List Str} {c : CE} {pos : Pos} (hf : XFd X.K f cns) (he : LE X e c) (hb : attributeBase e f X.env (eval e X.env) = eval e X.env := by rfl) : LE X (.Attribute e f pos) (cXFld f cns c) := by
  obtain ⟨t, pt, ht⟩ := he.ex
  refine ⟨_, pe_xfld pt hb, fun ρ m d m' ι σ H Q e r s k => ?_⟩
  unfold cXFld at e
  obtain ⟨⟨x, m1⟩, e1, e⟩ := Option.bind_eq_some_iff.mp e
  obtain ⟨⟨cn, fs⟩, e2, e⟩ := Option.bind_eq_some_iff.mp e
  split at e
  · rename_i hc
    obtain ⟨y, e3, e⟩ := Option.bind_eq_some_iff.mp e
    cases e
    refine ht ρ m x m1 ι σ H _ e1 r s fun ι1 H1 v g1 r1 h1 => ?_
    obtain ⟨a, C, dx, vs, q1, q2, q3, q4, q5⟩ := exc_of r1 h1 e2
    obtain ⟨C2, n2, c2, na⟩ := hf cn hc
    rw [q4] at n2; cases n2
    obtain ⟨u, l1, l2⟩ := q5.look e3
    exact ⟨a, C, dx, vs, u, q1, q2, q3, c2, na, l1, k ι1 H1 u g1 r1 l2⟩
  · cases e
def cIsX (tab : List (Str × Bool)) (c : CE) : CE := fun ρ m => (c ρ m).bind fun p => (excD p.1 p.2).bind fun q => (tab.lookup q.1).bind fun b => some (.bl b, p.2)
theorem le_isx {x : Str} {a : Expr} {tab : List (Str × Bool)} {c : CE} {p p2 pos : Pos} (ha : LE X a c) (hg : Gl X "isinstance") (hm : X.mg "isinstance" = none) (hg2 : Gl X x) (ht : XTab X.K X.mg x tab) (hd : (x == ("__debug__" : Str)) = false := by decide)
    (he : starEach (a :: [.Name x p2]) X.env = (false, eval a X.env) :: starEach [.Name x p2] X.env := by rfl) (he2 : starEach [.Name x p2] X.env = (false, eval (.Name x p2) X.env) :: starEach [] X.env := by rfl)
    (hpl : (backTo pos (starEach [.Name x p2] X.env)).any (·.1) = false := by rfl) : LE X (.Call (.Name "isinstance" p) [a, .Name x p2] [] pos) (cIsX tab c) := by
  obtain ⟨t, pt, hte⟩ := ha.ex
  obtain ⟨C', hm2, _, htab⟩ := ht.ex
  refine ⟨_, pe_callB cr_isx hg hm (by decide +kernel) (pa_cons pt (pa_cons (pe_glob (v := .ref C') hg2 hm2 rfl hd) pa_nil he2) he) (by decide) (by decide) he hpl, fun ρ m d m' ι σ H Q e rm s k => ?_⟩
  unfold cIsX at e
  obtain ⟨⟨y, m1⟩, e1, e⟩ := Option.bind_eq_some_iff.mp e
  obtain ⟨⟨cn, fs⟩, e2, e⟩ := Option.bind_eq_some_iff.mp e
  obtain ⟨b, e3, e⟩ := Option.bind_eq_some_iff.mp e
  cases e
  refine hte ρ m y m1 ι σ H _ e1 rm s fun ι1 H1 v g1 r1 h1 => ?_
  obtain ⟨a, C, dx, vs, q1, q2, q3, q4, q5⟩ := exc_of r1 h1 e2
  obtain ⟨C2, n2, c2, _, kt⟩ := htab cn b e3
  rw [q4] at n2; cases n2
  exact ⟨a, C, dx, vs, C', b, by rw [q1], q2, q3, c2, kt, k ι1 H1 _ g1 r1 (.bl _)⟩
/-- a written row of classes -/
inductive XTs (X : Cx) : List Expr → List (List (Str × Bool)) → Prop where
  | nil : XTs X [] []
  | cons {x : Str} {p : Pos} {es : List Expr} {tab : List (Str × Bool)} {tabs : List (List (Str × Bool))} (hg : Gl X x) (ht : XTab X.K X.mg x tab) (hd : (x == ("__debug__" : Str)) = false) (hst : starEach (.Name x p :: es) X.env = (false, eval (.Name x p) X.env) :: starEach es X.env) (hs : XTs X es tabs) : XTs X (.Name x p :: es) (tab :: tabs)
def anyTab (cn : Str) : List (List (Str × Bool)) → Option Bool
  | [] => some false
  | t :: ts => match t.lookup cn with
    | some true => some true
    | some false => anyTab cn ts
    | none => none
theorem xts_pa {es : List Expr} {tabs : List (List (Str × Bool))} (h : XTs X es tabs) : ∃ (Cs : List Addr) (t : TA), PA X es t ∧ (∀ σ H Q, Q (Cs.map V.ref) H → t σ H Q) ∧ Cs.length = es.length ∧
    ∀ (cn : Str) (b : Bool) (C : Addr), PySem.W.nsIn X.K mainGlobals cn = some (some (.ref C)) → anyTab cn tabs = some b → PySem.W.kitAny X.K (.ref C) (Cs.map Value.ref) = some b := by
  induction h with
  | nil => exact ⟨[], _, pa_nil, fun σ H Q q => q, rfl, fun cn b C _ e => e⟩
  | cons hg ht hd hst hs ih =>
    obtain ⟨Cs, t, pt, hq, hl, hk⟩ := ih
    obtain ⟨C', hm, _, htab⟩ := ht.ex
    refine ⟨C' :: Cs, _, pa_cons (pe_glob (v := .ref C') hg hm rfl hd) pt hst, fun σ H Q q => hq σ H _ q, by rw [List.length_cons, List.length_cons, hl], fun cn b C hn e => ?_⟩
    unfold anyTab at e
    rw [List.map_cons]
    unfold PySem.W.kitAny
    split at e
    · rename_i e1
      cases e
      obtain ⟨C2, n2, _, _, kt⟩ := htab cn _ e1
      rw [hn] at n2; cases n2
      rw [kt]
    · rename_i e1
      obtain ⟨C2, n2, _, _, kt⟩ := htab cn _ e1
      rw [hn] at n2; cases n2
      rw [kt]
      exact hk cn b C hn e
    · cases e
/-- the classes cns are known -/
def XKn (K : PySem.W.Frag) (cns : List Str) : Prop := ∀ cn ∈ cns, ∃ C, PySem.W.nsIn K mainGlobals cn = some (some (.ref C)) ∧ XIs K C
def cIsT (cns : List Str) (tabs : List (List (Str × Bool))) (c : CE) : CE := fun ρ m => (c ρ m).bind fun p => (excD p.1 p.2).bind fun q => if q.1 ∈ cns then (anyTab q.1 tabs).bind fun b => some (.bl b, p.2) else none
theorem le_ist {a : Expr} {es : List Expr} {x1} {cns : List Str} {tabs : List (List (Str × Bool))} {c : CE} {p p2 pos : Pos} (ha : LE X a c) (hg : Gl X "isinstance") (hm : X.mg "isinstance" = none) (hk : XKn X.K cns) (ht : XTs X es tabs) (hz : es.length ≤ 1000)
    (he : starEach (a :: [.Tuple es x1 p2]) X.env = (false, eval a X.env) :: starEach [.Tuple es x1 p2] X.env := by rfl) (he2 : starEach [.Tuple es x1 p2] X.env = (false, eval (.Tuple es x1 p2) X.env) :: starEach [] X.env := by rfl)
    (hpl : (backTo pos (starEach [.Tuple es x1 p2] X.env)).any (·.1) = false := by rfl) : LE X (.Call (.Name "isinstance" p) [a, .Tuple es x1 p2] [] pos) (cIsT cns tabs c) := by
  obtain ⟨t, pt, hte⟩ := ha.ex
  obtain ⟨Cs, u, pu, hu, hl, hka⟩ := xts_pa ht
  refine ⟨_, pe_callB cr_ist hg hm (by decide +kernel) (pa_cons pt (pa_cons (pe_tup pu) pa_nil he2) he) (by decide) (by decide) he hpl, fun ρ m d m' ι σ H Q e rm s k => ?_⟩
  unfold cIsT at e
  obtain ⟨⟨y, m1⟩, e1, e⟩ := Option.bind_eq_some_iff.mp e
  obtain ⟨⟨cn, fs⟩, e2, e⟩ := Option.bind_eq_some_iff.mp e
  split at e
  · rename_i hc
    obtain ⟨b, e3, e⟩ := Option.bind_eq_some_iff.mp e
    cases e
    refine hte ρ m y m1 ι σ H _ e1 rm s fun ι1 H1 v g1 r1 h1 => ?_
    refine hu σ H1 _ ⟨by rw [List.length_map, hl, sizeLine_eq]; omega, fun tp htp => ?_⟩
    have g2 := gr_new r1 htp (.tup (Cs.map V.ref))
    have r2 := rm_new r1 htp (.tup (Cs.map V.ref))
    have h2 := h1.gr r1 g2
    obtain ⟨a, C, dx, vs, q1, q2, q3, q4, q5⟩ := exc_of r2 h2 e2
    obtain ⟨C2, n2, c2⟩ := hk cn hc
    rw [q4] at n2; cases n2
    exact ⟨a, C, dx, vs, tp, Cs, b, by rw [q1], q2, q3, c2, upd_same, hka cn b C q4 e3, k ι1 _ _ (g1.trans g2) r2 (.bl _)⟩
  · cases e
end
end L3

set_option Elab.async false
set_option linter.all false
set_option maxRecDepth 100000
/-! try -/
namespace L3
open PySem PySem.Spec PyProof.Rows L2
def offF (i : Nat) : Fl → Fl
  | .nx ρ => .nx (ρ.set i none)
  | .rt d => .rt d
  | .bk ρ => .bk (ρ.set i none)
  | .ct ρ => .ct (ρ.set i none)
def hNo : D → CS := fun _ _ _ => none
/-- a clause without a name -/
def hC0 (tab : List (Str × Bool)) (c : CS) (rest : D → CS) : D → CS := fun d ρ m => (excD d m).bind fun q => (tab.lookup q.1).bind fun b => if b = true then c ρ m else rest d ρ m
/-- a clause with a name -/
def hC1 (tab : List (Str × Bool)) (i : Nat) (c : CS) (rest : D → CS) : D → CS := fun d ρ m => (excD d m).bind fun q => (tab.lookup q.1).bind fun b => if b = true then (c (ρ.set i (some d)) m).bind fun r => some (offF i r.1, r.2) else rest d ρ m
def cTry (cb : CS) (rb : CE) (h : D → CS) : CS := fun ρ m => match cb ρ m with
  | some r => some r
  | none => (rb ρ m).bind fun p => h p.1 ρ p.2
theorem RS.off {K : PySem.W.Frag} {ι : List Addr} {H : Hp} {σ : L2.St} {ρ : En} (s : RS K ι H σ ρ) (i : Nat) : RS K ι H (σ.set i none) (ρ.set i none) := by
  refine ⟨by rw [List.length_set, List.length_set]; exact s.1, fun j x e => ?_⟩
  by_cases hj : i = j
  · subst hj
    by_cases hl : i < ρ.length
    · rw [List.getElem?_set_self hl] at e; cases e
    · rw [List.getElem?_eq_none (by rw [List.length_set]; omega)] at e; cases e
  · rw [List.getElem?_set_ne hj] at e ⊢
    exact s.2 j x e
def LH (X : Cx) (hs : List ExceptHandler) (ch : D → CS) : Prop := ∀ (pins : List (Addr × Obj)) (σ : L2.St) (H' : Hp) (s' : Shared) (E : XK) (a C dx : Addr) (Dn : Ends) (ρ : En) (m : M) (ι : List Addr) (d : D) (f : Fl) (m' : M), X.stack = X.env :: X.outer → (X.calm = true → X.A.handled = none) →
  Got X pins σ H' s' E a C dx → Inv (X.suite pins a) [] σ H' s' → ch d ρ m = some (f, m') → RM X.K ι m H' → RS X.K ι H' σ ρ → RV X.K ι H' d (.ref a) → Ks X.K ι H' f m' Dn →
  wpAny (model X.prog X.w) X.A (handleBy (.ref a) X.env hs) (SP X pins Dn) X.xe s'
section
variable {X : Cx}
theorem lh_no : LH X [] hNo := fun _ _ _ _ _ _ _ _ _ _ _ _ _ _ _ _ _ _ _ e => nomatch e
/-- the class of what was caught -/
theorem got_cls {pins : List (Addr × Obj)} {σ : L2.St} {H' : Hp} {s' : Shared} {E : XK} {a C dx : Addr} {m : M} {ι : List Addr} {d : D} {cn : Str} {fs : List (Str × D)} (G : Got X pins σ H' s' E a C dx) (I : Inv (X.suite pins a) [] σ H' s') (r : RM X.K ι m H') (rx : RV X.K ι H' d (.ref a)) (e : excD d m = some (cn, fs)) :
    PySem.W.nsIn X.K mainGlobals cn = some (some (.ref C)) := by
  obtain ⟨⟨xe, Hb, sb, I1, F, xt⟩, hE⟩ := G
  obtain ⟨oe, vs, h1, h2, _⟩ := xt
  obtain ⟨a', C', dx', ws, q1, q2, q3, q4, q5⟩ := exc_of r rx e
  cases q1
  obtain ⟨⟨oe', vs', h1', h2', _⟩, _, _⟩ := I.hok _ _ q2
  rw [h1] at h1'; cases h1'
  rw [h2] at h2'; cases h2'
  exact q4
theorem lh_c1 {x n : Str} {i : Nat} {tab : List (Str × Bool)} {np hpos : Pos} {b0 : Stmt} {suite : List Stmt} {hs : List ExceptHandler} {c : CS} {rest : D → CS} (hN : X.N.Nodup) (hg : Gl X x) (ht : XTab X.K X.mg x tab) (h : ∀ pins a, LSs (X.suite pins a) (b0 :: suite) c) (hr : LH X hs rest) (hi : X.N[i]? = some n := by rfl) (hx : X.env.scope.names.lookup n = some .local := by rfl) (hdb : (x == ("__debug__" : Str)) = false := by decide) :
    LH X (.ExceptHandler (some (.Name x np)) (some n) (b0 :: suite) hpos :: hs) (hC1 tab i c rest) := by
  intro pins σ H' s' E a C dx Dn ρ m ι d f m' hst hc G I2 e r s rx k
  unfold hC1 at e
  obtain ⟨⟨cn, fs⟩, e1, e⟩ := Option.bind_eq_some_iff.mp e
  obtain ⟨b, e2, e⟩ := Option.bind_eq_some_iff.mp e
  obtain ⟨C', hm, q, htab⟩ := ht.ex
  obtain ⟨C2, n2, _, mr, _⟩ := htab cn b e2
  have hcl := got_cls G I2 r rx e1
  rw [hcl] at n2; cases n2
  cases b with
  | true =>
    obtain ⟨⟨f1, m1⟩, e3, e⟩ := Option.bind_eq_some_iff.mp e
    cases e
    obtain ⟨t, pt, hts⟩ := (h pins a).ex
    refine clause1 hst hc hN hi hx hg hm q mr G I2 (fun s4 I4 => pt [] s4 _ H' _ I4 (hts _ m f1 m1 ι _ H' _ e3 r (s.set i rx) fun ι2 H2 g2 r2 => ?_)) hdb
    have := k ι2 H2 g2 r2
    cases f1 with
    | nx ρ1 => exact fun σ1 s1 => this _ (s1.off i)
    | rt d1 => exact this
    | bk ρ1 => exact fun σ1 s1 => this _ (s1.off i)
    | ct ρ1 => exact fun σ1 s1 => this _ (s1.off i)
  | false => exact clause_no (D := Dn) hg hm q mr G I2 (hr pins σ H' s' E a C dx Dn ρ m ι d f m' hst hc G I2 e r s rx k) hdb
theorem ls_try {body : List Stmt} {hd : ExceptHandler} {hs : List ExceptHandler} {pos : Pos} {cb : CS} {rb : CE} {ch : D → CS} (hst : X.stack = X.env :: X.outer) (hf : X.env.frame = some X.env.locals) (hcb : LSs X.nox body cb) (hrb : ∀ pins xe, LR (X.tryX pins xe) False body rb) (hh : LH X (hd :: hs) ch) :
    LS X (.Try body (hd :: hs) [] [] pos) (cTry cb rb ch) := by
  obtain ⟨tb, pb, hb⟩ := hcb.ex
  refine ⟨fun Dn σ H => tb Dn σ H ∨ ∃ (ρ : En) (m : M) (d : D) (m1 : M) (f : Fl) (m' : M) (ι : List Addr), rb ρ m = some (d, m1) ∧ ch d ρ m1 = some (f, m') ∧ RM X.K ι m H ∧ RS X.K ι H σ ρ ∧ Ks X.K ι H f m' Dn, fun pins s σ H Dn I q => ?_, fun ρ m f m' ι σ H Dn e r s k => ?_⟩
  · rcases q with q | ⟨ρ, m, d, m1, f, m', ι, e1, e2, r, s', k⟩
    · refine wpAny_Try_except (wpAny_mono (pb pins s σ H Dn (I.wish _) q) (fun f s1 hf => ?_) fun e s1 he => False.elim he)
      have hf : SP X pins Dn f s1 := hf.unwish
      · cases f with
        | next => obtain ⟨σ', H', I', q⟩ := hf; exact pss_nil pins s1 σ' H' Dn I' q
        | brk => exact hf
        | cont => exact hf
        | ret u => exact hf
    · refine try_core I hst hf (EX X.K ι H d m1) (fun xe w => ?_) fun H' s2 a C dx G I2 => ?_
      · obtain ⟨t, pt, ht⟩ := (hrb pins xe).ex
        exact pt [] s σ H Dn I.tryX (ht ρ m d m1 ι σ H Dn e1 r s' w fun z => z.elim)
      · obtain ⟨ι', a', ea, g, r', rx⟩ := G.E
        cases ea
        exact hh pins σ H' s2 _ a C dx Dn ρ m1 ι' d f m' hst I.ok.hd G I2 e2 r' (s'.gr r g) rx fun ι2 H2 g2 r2 => k ι2 H2 (g.trans g2) r2
  · unfold cTry at e
    split at e
    · rename_i x e1
      cases e
      exact .inl (hb ρ m f m' ι σ H Dn e1 r s k)
    · obtain ⟨⟨d, m1⟩, e1, e⟩ := Option.bind_eq_some_iff.mp e
      exact .inr ⟨ρ, m, d, m1, f, m', ι, e1, e, r, s, k⟩
end
end L3
/-! ### for the printed texts -/
namespace L3
open PySem PySem.Spec PyProof.Rows L2
def XTabP (K : PySem.W.Frag) (C' : Addr) (tab : List (Str × Bool)) : Prop := ∀ cn b, tab.lookup cn = some b → ∃ C, PySem.W.nsIn K mainGlobals cn = some (some (.ref C)) ∧ XIs K C ∧ PySem.W.mroIn K C (.ref C') = some b ∧ PySem.W.kitOne K (.ref C) (.ref C') = some b
theorem xtp_nil {K : PySem.W.Frag} {C' : Addr} : XTabP K C' [] := fun _ _ e => nomatch e
theorem xtp_cons {K : PySem.W.Frag} {C' C : Addr} {cn : Str} {b : Bool} {tab : List (Str × Bool)} (hn : PySem.W.nsIn K mainGlobals cn = some (some (.ref C))) (i : XIs K C) (m : PySem.W.mroIn K C (.ref C') = some b) (k : PySem.W.kitOne K (.ref C) (.ref C') = some b) (h : XTabP K C' tab) : XTabP K C' ((cn, b) :: tab) := fun x y e => by
  rw [List.lookup_cons] at e
  cases hx : (x == cn) with
  | true => rw [hx] at e; cases e; rw [beq_iff_eq.mp hx]; exact ⟨C, hn, i, m, k⟩
  | false => rw [hx] at e; exact h x y e
theorem xkn_nil {K : PySem.W.Frag} : XKn K [] := fun _ h => nomatch h
theorem xkn_cons {K : PySem.W.Frag} {C : Addr} {cn : Str} {cns : List Str} (hn : PySem.W.nsIn K mainGlobals cn = some (some (.ref C))) (i : XIs K C) (h : XKn K cns) : XKn K (cn :: cns) := fun x hx => by
  rcases List.mem_cons.mp hx with rfl | hx
  · exact ⟨C, hn, i⟩
  · exact h x hx
theorem xfd_nil {K : PySem.W.Frag} {f : Str} : XFd K f [] := fun _ h => nomatch h
theorem xfd_cons {K : PySem.W.Frag} {C : Addr} {cn f : Str} {cns : List Str} (hn : PySem.W.nsIn K mainGlobals cn = some (some (.ref C))) (i : XIs K C) (n : NoAttr K C f) (h : XFd K f cns) : XFd K f (cn :: cns) := fun x hx => by
  rcases List.mem_cons.mp hx with rfl | hx
  · exact ⟨C, hn, i.toXCls, n⟩
  · exact h x hx
theorem na_nil {K : PySem.W.Frag} {C : Addr} : ∀ f ∈ ([] : List Str), NoAttr K C f := fun _ h => nomatch h
theorem na_cons {K : PySem.W.Frag} {C : Addr} {f : Str} {fs : List Str} (n : NoAttr K C f) (h : ∀ f ∈ fs, NoAttr K C f) : ∀ g ∈ f :: fs, NoAttr K C g := fun x hx => by
  rcases List.mem_cons.mp hx with rfl | hx
  · exact n
  · exact h x hx
end L3

set_option Elab.async false
set_option linter.all false
set_option maxRecDepth 100000
/-! errors: how the functions come to something -/
namespace L3
open PySem L2
section
variable {ρ : En} {m : M} {P : D → M → Prop} {R : Fl → M → Prop}
theorem w_tryOk {cb : CS} {rb : CE} {h : D → CS} (k : W (cb ρ m) R) : W (cTry cb rb h ρ m) R := by
  obtain ⟨f, m1, e, q⟩ := k
  exact ⟨f, m1, by unfold cTry; rw [e], q⟩
theorem w_tryNo {cb : CS} {rb : CE} {h : D → CS} (h1 : cb ρ m = none) (k : W (rb ρ m) fun d m1 => W (h d ρ m1) R) : W (cTry cb rb h ρ m) R := by
  obtain ⟨d, m1, e, f, m2, e2, q⟩ := k
  exact ⟨f, m2, by unfold cTry; rw [h1]; simp only [e, Option.bind_some, e2], q⟩
theorem w_hC1 {tab : List (Str × Bool)} {i : Nat} {c : CS} {rest : D → CS} {d : D} {cn : Str} {fs : List (Str × D)} (e1 : excD d m = some (cn, fs)) (e2 : tab.lookup cn = some true) (k : W (c (ρ.set i (some d)) m) fun f m1 => R (offF i f) m1) : W (hC1 tab i c rest d ρ m) R := by
  obtain ⟨f, m1, e, q⟩ := k
  exact ⟨offF i f, m1, by unfold hC1; simp only [e1, e2, Option.bind_some, if_true, e], q⟩
theorem w_isX {tab : List (Str × Bool)} {c : CE} (k : W (c ρ m) fun d m1 => ∃ cn fs b, excD d m1 = some (cn, fs) ∧ tab.lookup cn = some b ∧ P (.bl b) m1) : W (cIsX tab c ρ m) P := by
  obtain ⟨d, m1, e, cn, fs, b, e1, e2, q⟩ := k
  exact ⟨_, _, by unfold cIsX; simp only [e, Option.bind_some, e1, e2], q⟩
theorem w_isT {cns : List Str} {tabs : List (List (Str × Bool))} {c : CE} (k : W (c ρ m) fun d m1 => ∃ cn fs b, excD d m1 = some (cn, fs) ∧ cn ∈ cns ∧ anyTab cn tabs = some b ∧ P (.bl b) m1) : W (cIsT cns tabs c ρ m) P := by
  obtain ⟨d, m1, e, cn, fs, b, e1, e2, e3, q⟩ := k
  exact ⟨_, _, by unfold cIsT; simp only [e, Option.bind_some, e1, if_pos e2, e3], q⟩
theorem w_xfld {f : Str} {cns : List Str} {c : CE} (k : W (c ρ m) fun d m1 => ∃ cn fs y, excD d m1 = some (cn, fs) ∧ cn ∈ cns ∧ fs.lookup f = some y ∧ P y m1) : W (cXFld f cns c ρ m) P := by
  obtain ⟨d, m1, e, cn, fs, y, e1, e2, e3, q⟩ := k
  exact ⟨_, _, by unfold cXFld; simp only [e, Option.bind_some, e1, if_pos e2, e3], q⟩
theorem w_rThen {c r : CE} (k : W (c ρ m) fun _ m1 => W (r ρ m1) P) : W (rThen c r ρ m) P := by
  obtain ⟨d, m1, e, d2, m2, e2, q⟩ := k
  exact ⟨_, _, by unfold rThen; simp only [e, Option.bind_some, e2], q⟩
/-! nothing comes of it -/
theorem n_ret {c : CE} (h : c ρ m = none) : cRet c ρ m = none := by unfold cRet; rw [h]; rfl
theorem n_tup {cs : CA} (h : cs ρ m = none) : cTup cs ρ m = none := by unfold cTup; rw [h]; rfl
theorem n_cons1 {c : CE} {cs : CA} (h : c ρ m = none) : cCons c cs ρ m = none := by unfold cCons; rw [h]; rfl
theorem n_cons2 {c : CE} {cs : CA} (h : W (c ρ m) fun _ m1 => cs ρ m1 = none) : cCons c cs ρ m = none := by
  obtain ⟨d, m1, e, h⟩ := h
  unfold cCons; rw [e]; simp only [Option.bind_some, h, Option.bind_none]
theorem n_callK {n : Nat} {F : FD} {g : List D → List D → List D} {cs ck : CA} (h : W (cs ρ m) fun ds m1 => W (ck ρ m1) fun es m2 => F (g ds es) m2 = none) : cCallK n F g cs ck ρ m = none := by
  obtain ⟨d, m1, e, d2, m2, e2, h⟩ := h
  unfold cCallK; rw [e]; simp only [Option.bind_some, e2, h]
  split <;> rfl
theorem n_seq1 {a b : CS} (h : a ρ m = none) : cSeq a b ρ m = none := by unfold cSeq; rw [h]
theorem n_ifT {c : CT} {a b : CS} (h : W (c ρ m) fun x m1 => x = true ∧ a ρ m1 = none) : cIfS c a b ρ m = none := by
  obtain ⟨x, m1, e, rfl, h⟩ := h
  unfold cIfS; rw [e]; exact h
theorem n_never : cNever ρ m = none := rfl
theorem n_run {n : Nat} {c : CS} {ds : List D} (h : c (enS n ds) m = none) : runB n c ds m = none := by unfold runB; rw [h]
theorem excD_last {cn : Str} {fs : List (Str × D)} : excD (.ref m.length) (m ++ [.exc cn fs]) = some (cn, fs) := by unfold excD; simp
end
end L3

set_option Elab.async false
set_option linter.all false
set_option maxRecDepth 100000
set_option maxHeartbeats 40000000
namespace Law
open PySem L2 L3
def top (i : Nat) : Stmt := PySem.Challenge.pw_forkjoins_k04_changed.main.body.getD i (.Pass ⟨0, 0, 0, 0⟩)
def tab_ONLY : List (Str × D) := [("has", .str "set"), ("put", .str "set"), ("take", .str "set"), ("add", .str "sum"), ("row", .str "list")]
abbrev raisedX : List Str := ["NoStep"]
abbrev tabX_NoBack : List (Str × Bool) := [("NoStep", false)]
abbrev tabX_NoRevision : List (Str × Bool) := [("NoStep", false)]
abbrev tabX_NoStep : List (Str × Bool) := [("NoStep", true)]
abbrev tabX_PaperError : List (Str × Bool) := [("NoStep", false)]
abbrev tabX_RunError : List (Str × Bool) := [("NoStep", true)]
abbrev tabX_TextError : List (Str × Bool) := [("NoStep", false)]
abbrev fldX_word : List Str := ["NoStep"]
abbrev sI_NoStep : Stmt := inClass (top 6) 0
abbrev pI_NoStep : List Str := ["self", "word"]
theorem scI_NoStep : FnScope pI_NoStep pI_NoStep (defScope sI_NoStep) := ⟨rfl, rfl, rfl, by decide +kernel, rfl, by decide +kernel, by decide +kernel⟩
theorem okI_NoStep {P : Program} {w : World} {K : PySem.W.Frag} {mg : Str → Option Value} {base : Heap} {f : Addr} {fd : FuncData} (F : Fun K "__init__" "NoStep.__init__" sI_NoStep f fd) : FnOk P w K mg base CX0 1 f fd pI_NoStep (spI K ["word"]) :=
  init1 (k := 0) F scI_NoStep rfl rfl fun cdv A outer s H E => pss_one (ps_xf (pv 0) (pv 1) rfl)
structure Txt (K : PySem.W.Frag) (mg : Str → Option Value) (PP : Params) : Prop where
  enumerate_ : mg "enumerate" = none
  int_ : mg "int" = none
  isinstance_ : mg "isinstance" = none
  len_ : mg "len" = none
  list_ : mg "list" = none
  range_ : mg "range" = none
  repr_ : mg "repr" = none
  set_ : mg "set" = none
  sorted_ : mg "sorted" = none
  tuple_ : mg "tuple" = none
  xt_NoBack : XTab K mg "NoBack" tabX_NoBack
  xt_NoRevision : XTab K mg "NoRevision" tabX_NoRevision
  xt_NoStep : XTab K mg "NoStep" tabX_NoStep
  xt_PaperError : XTab K mg "PaperError" tabX_PaperError
  xt_RunError : XTab K mg "RunError" tabX_RunError
  xt_TextError : XTab K mg "TextError" tabX_TextError
  xk : XKn K raisedX
  xf_word : XFd K "word" fldX_word
  ONLY_ : ∃ a, mg "ONLY" = some (.ref a) ∧ MD K PP a tab_ONLY
  WRITING_ : ∃ a, mg "WRITING" = some (.ref a) ∧ ∀ ι H, RV K ι H (.tup [.str "write", .str "add", .str "put", .str "take", .str "row"]) (.ref a)
/-! ### suits -/
abbrev s_suits : Stmt := top 11
abbrev N_suits : List Str := ["word", "kind"]
abbrev p_suits : List Str := ["word", "kind"]
noncomputable def c_suits : CS :=
    (cSeq (cIfS (cB (c2 fEq (cVar 0) (cC (.str "write")))) (cRet (c2 fNinX (cVar 1) (cTup (cCons (cC (.str "set")) (cCons (cC (.str "list")) cNil))))) cNext)
    (cRet (cOrV (cMIn true tab_ONLY (cVar 0)) (c2 fEq (cVar 1) (cMGet tab_ONLY (cVar 0))))))
noncomputable def F_suits : FD := runB 2 c_suits
theorem sc_suits : FnScope N_suits p_suits (defScope s_suits) := ⟨rfl, rfl, rfl, by decide +kernel, rfl, by decide +kernel, by decide +kernel⟩
/-! ### without_number -/
abbrev s_without_number : Stmt := top 12
abbrev N_without_number : List Str := ["has", "number", "held"]
abbrev p_without_number : List Str := ["has", "number"]
noncomputable def c_without_number : CS :=
    (cRet (cCall (f1 tupleD) (cCons (cLc (iTupD (cVar 0)) (gSet 2) (cB (c2 fNe (cVar 2) (cVar 1))) (cVar 2) [2]) cNil)))
noncomputable def F_without_number : FD := runB 3 c_without_number
theorem sc_without_number : FnScope N_without_number p_without_number (defScope s_without_number) := ⟨rfl, rfl, rfl, by decide +kernel, rfl, by decide +kernel, by decide +kernel⟩
/-! ### with_number -/
abbrev s_with_number : Stmt := top 13
abbrev N_with_number : List Str := ["has", "number", "others"]
abbrev p_with_number : List Str := ["has", "number"]
noncomputable def c_with_number : CS :=
    (cSeq (cAsg (cCall F_without_number (cCons (cVar 0) (cCons (cVar 1) cNil))) (gSet 2))
    (cRet (cCall (f1 tupleD) (cCons (cCall (f1 sortedD) (cCons (cLst (cStar (cVar 2) (cCons (cVar 1) cNil))) cNil)) cNil))))
noncomputable def F_with_number : FD := runB 3 c_with_number
theorem sc_with_number : FnScope N_with_number p_with_number (defScope s_with_number) := ⟨rfl, rfl, rfl, by decide +kernel, rfl, by decide +kernel, by decide +kernel⟩
/-! ### changed -/
abbrev s_changed : Stmt := top 14
abbrev N_changed : List Str := ["kind", "has", "word", "number"]
abbrev p_changed : List Str := ["kind", "has", "word", "number"]
noncomputable def c_changed : CS :=
    (cSeq (cIfS (cOrT (cB (c2 fNin (cVar 2) (cC (.tup [.str "write", .str "add", .str "put", .str "take", .str "row"])))) (cNotT (cTru (cCall F_suits (cCons (cVar 2) (cCons (cVar 0) cNil)))))) cNever cNext)
    (cSeq (cIfS (cB (c2 fEq (cVar 2) (cC (.str "write")))) (cRet (cVar 3)) cNext)
    (cSeq (cIfS (cB (c2 fEq (cVar 2) (cC (.str "add")))) (cRet (c2 fAdd (cVar 1) (cVar 3))) cNext)
    (cSeq (cIfS (cB (c2 fEq (cVar 2) (cC (.str "put")))) (cRet (cCall F_with_number (cCons (cVar 1) (cCons (cVar 3) cNil)))) cNext)
    (cSeq (cIfS (cB (c2 fEq (cVar 2) (cC (.str "take")))) (cRet (cCall F_without_number (cCons (cVar 1) (cCons (cVar 3) cNil)))) cNext)
    (cRet (cTup (cStar (cVar 1) (cCons (cVar 3) cNil)))))))))
noncomputable def F_changed : FD := runB 4 c_changed
noncomputable def r_changed : CE :=
    (rIf (cOrT (cB (c2 fNin (cVar 2) (cC (.tup [.str "write", .str "add", .str "put", .str "take", .str "row"])))) (cNotT (cTru (cCall F_suits (cCons (cVar 2) (cCons (cVar 0) cNil)))))) (cRaise "NoStep" ["word"] (cCons (cVar 2) cNil)) rNo)
noncomputable def R_changed : FD := runR 4 r_changed
theorem sc_changed : FnScope N_changed p_changed (defScope s_changed) := ⟨rfl, rfl, rfl, by decide +kernel, rfl, by decide +kernel, by decide +kernel⟩
/-! ### _law_feed -/
abbrev s__law_feed : Stmt := top 16
abbrev N__law_feed : List Str := ["_law_script"]
abbrev p__law_feed : List Str := ["_law_script"]
noncomputable def c__law_feed : CS :=
    (cRet (cDict (cPCons (cC (.str "cells")) (cCall (f1 listD) (cCons (cSl (cVar 0) cNoPart (cPart (cC (.int 63)))) cNil)) (cPCons (cC (.str "at")) (cC (.int 0)) (cPCons (cC (.str "left")) (cC (.int 0)) (cPCons (cC (.str "count")) (cC (.int 0)) cPNil))))))
noncomputable def F__law_feed : FD := runB 1 c__law_feed
theorem sc__law_feed : FnScope N__law_feed p__law_feed (defScope s__law_feed) := ⟨rfl, rfl, rfl, by decide +kernel, rfl, by decide +kernel, by decide +kernel⟩
/-! ### _law_draw -/
abbrev s__law_draw : Stmt := top 17
abbrev N__law_draw : List Str := ["_law_feed_here", "_law_many", "_law_at", "_law_cell", "_law_mixed", "_law_figure"]
abbrev p__law_draw : List Str := ["_law_feed_here", "_law_many"]
noncomputable def c__law_draw : CS :=
    (cSeq (cPut (cVar 0) (cC (.str "count")) (c2 fAdd (c2 getD2 (cVar 0) (cC (.str "count"))) (cC (.int 1))))
    (cSeq (cIfS (cB (c2 fGt (c2 getD2 (cVar 0) (cC (.str "left"))) (cC (.int 0)))) (cSeq (cAsg (c2 fMod (c2 getD2 (cVar 0) (cC (.str "left"))) (cVar 1)) (gSet 5))
    (cSeq (cPut (cVar 0) (cC (.str "left")) (c2 fDiv (c2 getD2 (cVar 0) (cC (.str "left"))) (cVar 1)))
    (cRet (cVar 5)))) cNext)
    (cSeq (cAsg (c2 getD2 (cVar 0) (cC (.str "at"))) (gSet 2))
    (cSeq (cPut (cVar 0) (cC (.str "at")) (c2 fAdd (cVar 2) (cC (.int 1))))
    (cSeq (cAsg (cIf (cB (c2 fNe (c2 getD2 (cVar 0) (cC (.str "cells"))) (cLst cNil))) (c2 ixD (c2 getD2 (cVar 0) (cC (.str "cells"))) (c2 fMod (cVar 2) (cCall (f1 lenD) (cCons (c2 getD2 (cVar 0) (cC (.str "cells"))) cNil)))) (cC (.int 11))) (gSet 3))
    (cSeq (cIfS (cAndT (cB (c2 fGe (cVar 3) (c2 fPow (cC (.int 10)) (cC (.int 18))))) (cB (c2 fLt (cVar 2) (cCall (f1 lenD) (cCons (c2 getD2 (cVar 0) (cC (.str "cells"))) cNil))))) (cSeq (cPut (cVar 0) (cC (.str "left")) (c2 fDiv (cVar 3) (cVar 1)))
    (cRet (c2 fMod (cVar 3) (cVar 1)))) cNext)
    (cSeq (cAsg (c2 fMod (c2 fAdd (c2 fAdd (c2 fMod (cVar 3) (cC (.int 1000000093))) (c2 fMul (cC (.int 70001)) (c2 getD2 (cVar 0) (cC (.str "count"))))) (cC (.int 43))) (cC (.int 2147483579))) (gSet 4))
    (cSeq (cAsg (c2 fMod (c2 fAdd (c2 fAdd (c2 fMul (cVar 4) (cVar 4)) (c2 fMul (cC (.int 6700417)) (c2 getD2 (cVar 0) (cC (.str "count"))))) (cC (.int 13))) (cC (.int 2147483549))) (gSet 4))
    (cRet (c2 fMod (c2 fDiv (c2 fMod (c2 fAdd (c2 fMul (cVar 4) (cVar 4)) (c2 fMul (cC (.int 23)) (cVar 4))) (cC (.int 2147483543))) (cC (.int 16))) (cVar 1)))))))))))
noncomputable def F__law_draw : FD := runB 6 c__law_draw
theorem sc__law_draw : FnScope N__law_draw p__law_draw (defScope s__law_draw) := ⟨rfl, rfl, rfl, by decide +kernel, rfl, by decide +kernel, by decide +kernel⟩
/-! ### _law_number -/
abbrev s__law_number : Stmt := top 18
abbrev N__law_number : List Str := ["_law_feed_here", "_law_far", "_law_few", "_law_some"]
abbrev p__law_number : List Str := ["_law_feed_here"]
noncomputable def c__law_number : CS :=
    (cSeq (cPar 2 3 (cCons (cCall F__law_draw (cCons (cVar 0) (cCons (cC (.int 4)) cNil))) (cCons (c2 fSub (cCall F__law_draw (cCons (cVar 0) (cCons (cC (.int 400)) cNil))) (cC (.int 100))) cNil)))
    (cSeq (cAsg (c2 fMul (c2 ixD (cLst (cCons (c2 fSub (c2 fPow (cC (.int 10)) (cC (.int 6))) (cVar 2)) (cCons (c2 fAdd (c2 fPow (cC (.int 10)) (cC (.int 59))) (cVar 2)) cNil))) (cCall F__law_draw (cCons (cVar 0) (cCons (cC (.int 2)) cNil)))) (c2 ixD (cLst (cCons (cC (.int 1)) (cCons (cNeg (cC (.int 1))) cNil))) (cCall F__law_draw (cCons (cVar 0) (cCons (cC (.int 2)) cNil))))) (gSet 1))
    (cRet (c2 ixD (cLst (cCons (cVar 2) (cCons (c2 fSub (cVar 2) (cC (.int 1))) (cCons (cVar 3) (cCons (cVar 2) (cCons (c2 fSub (cVar 2) (cC (.int 2))) (cCons (cVar 3) (cCons (cC (.int 0)) (cCons (cVar 1) cNil))))))))) (cCall F__law_draw (cCons (cVar 0) (cCons (cC (.int 8)) cNil)))))))
noncomputable def F__law_number : FD := runB 4 c__law_number
theorem sc__law_number : FnScope N__law_number p__law_number (defScope s__law_number) := ⟨rfl, rfl, rfl, by decide +kernel, rfl, by decide +kernel, by decide +kernel⟩
/-! ### _law_sum -/
abbrev s__law_sum : Stmt := top 19
abbrev N__law_sum : List Str := ["_law_feed_here", "_law_within", "_law_less", "_law_words", "_law_term", "_law_one"]
abbrev p__law_sum : List Str := ["_law_feed_here", "_law_within", "_law_less"]
noncomputable def c__law_sum (Fr : FD) : CS :=
    (cSeq (cAsg (c2 fAdd (cLst (cCons (cC (.str "num")) (cCons (cC (.str "slot")) (cCons (cC (.str "slot")) (cCons (cC (.str "plus")) (cCons (cC (.str "minus")) cNil)))))) (c2 fRep (cLst (cCons (cC (.str "less")) cNil)) (cCall (f1 intD) (cCons (cVar 2) cNil)))) (gSet 3))
    (cSeq (cAsg (c2 ixD (cVar 3) (cCall F__law_draw (cCons (cVar 0) (cCons (cIf (cB (c2 fGt (cVar 1) (cC (.int 1)))) (cCall (f1 lenD) (cCons (cVar 3) cNil)) (cC (.int 3))) cNil)))) (gSet 4))
    (cSeq (cIfS (cB (c2 fEq (cVar 4) (cC (.str "num")))) (cRet (cTup (cCons (cVar 4) (cCons (c2 ixD (cLst (cCons (cC (.int 0)) (cCons (cC (.int 1)) (cCons (cC (.int 2)) (cCons (cNeg (cC (.int 1))) (cCons (c2 fPow (cC (.int 10)) (cC (.int 6))) (cCons (c2 fSub (cCall F__law_draw (cCons (cVar 0) (cCons (cC (.int 300)) cNil))) (cC (.int 99))) cNil))))))) (cCall F__law_draw (cCons (cVar 0) (cCons (cC (.int 6)) cNil)))) cNil)))) cNext)
    (cSeq (cIfS (cB (c2 fEq (cVar 4) (cC (.str "slot")))) (cRet (cTup (cCons (cVar 4) (cCons (c2 ixD (cLst (cCons (cC (.str "base")) (cCons (cC (.str "mine")) (cCons (cC (.str "theirs")) (cCons (cC (.str "mine")) (cCons (cC (.str "theirs")) (cCons (cC (.str "other")) cNil))))))) (cCall F__law_draw (cCons (cVar 0) (cCons (cC (.int 6)) cNil)))) cNil)))) cNext)
    (cSeq (cAsg (cCall Fr (cCons (cVar 0) (cCons (c2 fSub (cVar 1) (cC (.int 1))) (cCons (cVar 2) cNil)))) (gSet 5))
    (cRet (cTup (cCons (cVar 4) (cCons (cVar 5) (cCons (cCall Fr (cCons (cVar 0) (cCons (c2 fSub (cVar 1) (cC (.int 1))) (cCons (cVar 2) cNil)))) cNil))))))))))
noncomputable def F__law_sum : Nat → FD
  | 0 => fun _ _ => none
  | n + 1 => runB 6 (c__law_sum (F__law_sum n))
theorem sc__law_sum : FnScope N__law_sum p__law_sum (defScope s__law_sum) := ⟨rfl, rfl, rfl, by decide +kernel, rfl, by decide +kernel, by decide +kernel⟩
/-! ### _law_has -/
abbrev s__law_has : Stmt := top 20
abbrev N__law_has : List Str := ["_law_feed_here", "_law_cast", "_law_many", "_law_some", "_law_k", "_law_figure"]
abbrev p__law_has : List Str := ["_law_feed_here", "_law_cast"]
noncomputable def c__law_has : CS :=
    (cSeq (cIfS (cB (c2 fNinX (cVar 1) (cTup (cCons (cC (.str "set")) (cCons (cC (.str "list")) cNil))))) (cRet (cCall F__law_number (cCons (cVar 0) cNil))) cNext)
    (cSeq (cAsg (cLst (cCons (cCall F__law_draw (cCons (cVar 0) (cCons (cC (.int 5)) cNil))) (cCons (cCall F__law_draw (cCons (cVar 0) (cCons (cC (.int 5)) cNil))) (cCons (cC (.int 40)) cNil)))) (gSet 2))
    (cSeq (cAsg (cLc (iRngD (cCons (c2 ixD (cVar 2) (c2 fDiv (cCall F__law_draw (cCons (cVar 0) (cCons (cC (.int 9)) cNil))) (cC (.int 4)))) cNil)) (gSet 4) cYes (c2 fSub (cCall F__law_draw (cCons (cVar 0) (cCons (cC (.int 6)) cNil))) (cC (.int 1))) [4]) (gSet 3))
    (cSeq (cAsg (cLc (iEnumD (cCons (cVar 3) cNil)) (gTupD 2 (gsCons (gSet 4) (gsCons (gSet 5) gsNil))) cYes (c2 fAdd (cVar 5) (c2 fMul (c2 fDiv (cVar 4) (cC (.int 6))) (cCall (f1 intD) (cCons (c2 fGt (cCall (f1 lenD) (cCons (cVar 3) cNil)) (cC (.int 9))) cNil)))) [4, 5]) (gSet 3))
    (cRet (cIf (cB (c2 fEq (cVar 1) (cC (.str "list")))) (cCall (f1 tupleD) (cCons (cVar 3) cNil)) (cCall (f1 tupleD) (cCons (cSS (cVar 3)) cNil))))))))
noncomputable def F__law_has : FD := runB 6 c__law_has
theorem sc__law_has : FnScope N__law_has p__law_has (defScope s__law_has) := ⟨rfl, rfl, rfl, by decide +kernel, rfl, by decide +kernel, by decide +kernel⟩
/-! ### _law_kind -/
abbrev s__law_kind : Stmt := top 21
abbrev N__law_kind : List Str := ["_law_feed_here", "_law_fixed", "_law_some", "_law_low", "_law_own", "_law_there"]
abbrev p__law_kind : List Str := ["_law_feed_here"]
noncomputable def c__law_kind : CS :=
    (cSeq (cAsg (cTup (cCons (cTup (cCons (cC (.str "slot")) (cCons (cC (.str "base")) cNil))) (cCons (cTup (cCons (cC (.str "slot")) (cCons (cC (.str "mine")) cNil))) (cCons (cTup (cCons (cC (.str "slot")) (cCons (cC (.str "theirs")) cNil))) cNil)))) (gTupD 3 (gsCons (gSet 3) (gsCons (gSet 4) (gsCons (gSet 5) gsNil)))))
    (cSeq (cAsg (cLst (cCons (cTup (cCons (cC (.str "plus")) (cCons (cVar 4) (cCons (cTup (cCons (cC (.str "minus")) (cCons (cVar 5) (cCons (cVar 3) cNil)))) cNil)))) (cCons (cVar 4) (cCons (cVar 5) (cCons (cTup (cCons (cC (.str "plus")) (cCons (cVar 4) (cCons (cTup (cCons (cC (.str "less")) (cCons (cVar 3) (cCons (cVar 5) cNil)))) cNil)))) cNil))))) (gSet 1))
    (cSeq (cAsg (c2 fAdd (c2 fRep (cLst (cCons (cCall (F__law_sum 12) (cCons (cVar 0) (cCons (c2 fAdd (cC (.int 1)) (cCall F__law_draw (cCons (cVar 0) (cCons (cC (.int 4)) cNil)))) (cCons (c2 fEq (cCall F__law_draw (cCons (cVar 0) (cCons (cC (.int 2)) cNil))) (cC (.int 0))) cNil)))) cNil)) (cC (.int 4))) (cVar 1)) (gSet 2))
    (cRet (c2 ixD (cLst (cCons (cC (.str "plain")) (cCons (cC (.str "sum")) (cCons (cC (.str "most")) (cCons (cC (.str "set")) (cCons (cC (.str "list")) (cCons (cTup (cCons (cC (.str "own")) (cCons (c2 ixD (cVar 2) (cCall F__law_draw (cCons (cVar 0) (cCons (cC (.int 8)) cNil)))) cNil))) cNil))))))) (cCall F__law_draw (cCons (cVar 0) (cCons (cC (.int 6)) cNil))))))))
noncomputable def F__law_kind : FD := runB 6 c__law_kind
theorem sc__law_kind : FnScope N__law_kind p__law_kind (defScope s__law_kind) := ⟨rfl, rfl, rfl, by decide +kernel, rfl, by decide +kernel, by decide +kernel⟩
/-! ### _law_due -/
abbrev s__law_due : Stmt := top 22
abbrev N__law_due : List Str := ["_law_cast", "_law_stock", "_law_term", "_law_figure", "_law_one"]
abbrev p__law_due : List Str := ["_law_cast", "_law_stock", "_law_term", "_law_figure"]
noncomputable def c__law_due : CS :=
    (cSeq (cIfS (cAndT (cB (c2 fEq (cVar 2) (cC (.str "write")))) (cB (c2 fNinX (cVar 0) (cTup (cCons (cC (.str "set")) (cCons (cC (.str "list")) cNil)))))) (cRet (cVar 3)) cNext)
    (cSeq (cIfS (cAndT (cB (c2 fEq (cVar 2) (cC (.str "add")))) (cB (c2 fEq (cVar 0) (cC (.str "sum"))))) (cRet (c2 fSub (cVar 1) (c2 fSub (cC (.int 0)) (cVar 3)))) cNext)
    (cSeq (cIfS (cAndT (cB (c2 fEq (cVar 2) (cC (.str "put")))) (cB (c2 fEq (cVar 0) (cC (.str "set"))))) (cRet (cCall (f1 tupleD) (cCons (c2 fAdd (c2 fAdd (cLc (iTupD (cVar 1)) (gSet 4) (cB (c2 fLt (cVar 4) (cVar 3))) (cVar 4) [4]) (cLst (cCons (cVar 3) cNil))) (cLc (iTupD (cVar 1)) (gSet 4) (cB (c2 fGt (cVar 4) (cVar 3))) (cVar 4) [4])) cNil))) cNext)
    (cSeq (cIfS (cAndT (cB (c2 fEq (cVar 2) (cC (.str "take")))) (cB (c2 fEq (cVar 0) (cC (.str "set"))))) (cRet (cCall (f1 tupleD) (cCons (c2 fAdd (cLc (iTupD (cVar 1)) (gSet 4) (cB (c2 fLt (cVar 4) (cVar 3))) (cVar 4) [4]) (cLc (iTupD (cVar 1)) (gSet 4) (cB (c2 fGt (cVar 4) (cVar 3))) (cVar 4) [4])) cNil))) cNext)
    (cRet (cIf (cAndT (cB (c2 fEq (cVar 2) (cC (.str "row")))) (cB (c2 fEq (cVar 0) (cC (.str "list"))))) (cCall (f1 tupleD) (cCons (c2 fAdd (cCall (f1 listD) (cCons (cVar 1) cNil)) (cLst (cCons (cVar 3) cNil))) cNil)) (cC .non)))))))
noncomputable def F__law_due : FD := runB 5 c__law_due
theorem sc__law_due : FnScope N__law_due p__law_due (defScope s__law_due) := ⟨rfl, rfl, rfl, by decide +kernel, rfl, by decide +kernel, by decide +kernel⟩
/-! ### _law_told -/
abbrev s__law_told : Stmt := top 23
abbrev N__law_told : List Str := ["_law_cast", "_law_stock", "_law_term", "_law_figure", "e"]
abbrev p__law_told : List Str := ["_law_cast", "_law_stock", "_law_term", "_law_figure"]
noncomputable def c__law_told : CS :=
    (cSeq (cTry (cRet (cTup (cCons (cC (.str "told")) (cCons (cCallK 4 F_changed (apG 2 2 [0, 1, 2, 3]) (cCons (cVar 0) (cCons (cVar 1) cNil)) (cCons (cVar 2) (cCons (cVar 3) cNil))) cNil)))) (rThen (cC (.str "told")) (cCallK 4 R_changed (apG 2 2 [0, 1, 2, 3]) (cCons (cVar 0) (cCons (cVar 1) cNil)) (cCons (cVar 2) (cCons (cVar 3) cNil)))) (hC1 tabX_RunError 4 (cIfS (cAndT (cTru (cIsX tabX_NoStep (cVar 4))) (cNotT (cTru (cIsT raisedX [tabX_NoBack, tabX_NoRevision, tabX_PaperError, tabX_TextError] (cVar 4))))) (cRet (cTup (cCons (cC (.str "no")) (cCons (cXFld "word" fldX_word (cVar 4)) cNil)))) cNext) hNo))
    (cRet (cTup (cCons (cC (.str "other")) cNil))))
noncomputable def F__law_told : FD := runB 5 c__law_told
theorem sc__law_told : FnScope N__law_told p__law_told (defScope s__law_told) := ⟨rfl, rfl, rfl, by decide +kernel, rfl, by decide +kernel, by decide +kernel⟩
/-! ### law -/
abbrev s_law : Stmt := top 24
abbrev N_law : List Str := ["_law_script", "_law_feed_here", "_law_casts", "_law_cast", "_law_stock", "_law_inside", "_law_before", "_law_figure", "_law_term", "_law_k", "_law_due_here", "_law_wanted"]
abbrev p_law : List Str := ["_law_script"]
noncomputable def c_law : CS :=
    (cSeq (cAsg (cCall F__law_feed (cCons (cVar 0) cNil)) (gSet 1))
    (cSeq (cAsg (c2 fAdd (cLc (iRngD (cCons (cC (.int 8)) cNil)) (gSet 9) cYes (cCall F__law_kind (cCons (cVar 1) cNil)) [9]) (cLst (cCons (cC (.str "set")) (cCons (cC (.str "list")) (cCons (cC (.str "sum")) (cCons (cC (.str "plain")) (cCons (cC (.str "most")) cNil))))))) (gSet 2))
    (cSeq (cFor (iLstD (cVar 2)) (gSet 3) (cSeq (cAsg (cCall F__law_has (cCons (cVar 1) (cCons (cVar 3) cNil))) (gSet 4))
    (cSeq (cAsg (cIf (cAndT (cTru (cIsi "tuple" (cVar 4))) (cB (c2 fNe (cVar 4) (cTup cNil)))) (c2 ixD (cVar 4) (cCall F__law_draw (cCons (cVar 1) (cCons (cCall (f1 lenD) (cCons (cVar 4) cNil)) cNil)))) (cC (.int 3))) (gSet 5))
    (cSeq (cAsg (cCall (f1 rprD) (cCons (cTup (cCons (cVar 3) (cCons (cVar 4) cNil))) cNil)) (gSet 6))
    (cSeq (cFor (iTupD (cTup (cCons (cVar 5) (cCons (cCall F__law_number (cCons (cVar 1) cNil)) (cCons (cNeg (cC (.int 1))) (cCons (cC (.int 0)) cNil)))))) (gSet 7) (cSeq (cFor (iTupD (cTup (cCons (cC (.str "write")) (cCons (cC (.str "add")) (cCons (cC (.str "put")) (cCons (cC (.str "take")) (cCons (cC (.str "row")) (cCons (cC (.str "read")) (cCons (cC (.str "tell")) (cCons (cC (.str "")) (cCons (cC (.str "Write")) (cCons (cC (.str "set")) cNil)))))))))))) (gSet 8) (cSeq (cAsg (cCall F__law_due (cCons (cVar 3) (cCons (cVar 4) (cCons (cVar 8) (cCons (cVar 7) cNil))))) (gSet 10))
    (cSeq (cAsg (cIf (cB (c2 fIsN (cVar 10) (cC .non))) (cTup (cCons (cC (.str "no")) (cCons (cVar 8) cNil))) (cTup (cCons (cC (.str "told")) (cCons (cVar 10) cNil)))) (gSet 11))
    (cIfS (cB (c2 fNe (cCall (f1 rprD) (cCons (cCall F__law_told (cCons (cVar 3) (cCons (cVar 4) (cCons (cVar 8) (cCons (cVar 7) cNil))))) cNil)) (cCall (f1 rprD) (cCons (cVar 11) cNil)))) (cRet (cC (.bl false))) cNext))))
    (cIfS (cAndT (cB (c2 fNinX (cVar 3) (cTup (cCons (cC (.str "set")) (cCons (cC (.str "list")) cNil))))) (cB (c2 fNe (cCallK0 4 F_changed (apG 0 4 [2, 1, 3, 0]) (cCons (cVar 7) (cCons (cVar 4) (cCons (cVar 3) (cCons (cC (.str "write")) cNil))))) (cVar 7)))) (cRet (cC (.bl false))) cNext)))
    (cIfS (cB (c2 fNe (cCall (f1 rprD) (cCons (cTup (cCons (cVar 3) (cCons (cVar 4) cNil))) cNil)) (cVar 6))) (cRet (cC (.bl false))) cNext))))))
    (cRet (cC (.bl true))))))
noncomputable def F_law : FD := runB 12 c_law
theorem sc_law : FnScope N_law p_law (defScope s_law) := ⟨rfl, rfl, rfl, by decide +kernel, rfl, by decide +kernel, by decide +kernel⟩
section
variable {P : Program} {w : World} {K : PySem.W.Frag} {mg : Str → Option Value} {base : Heap}
theorem ok_suits {f : Addr} {fd : FuncData} (T : Txt K mg w.params) (F : Fun K "suits" "suits" s_suits f fd) :
    FnOk P w K mg base CX0 1 f fd p_suits (spF K 2 F_suits) :=
  fn_def (k := 0) (N := N_suits) (ps := p_suits) F sc_suits fun cdv A outer s H E hr => by
  have nd := sc_suits.nd
  exact (ls_cons (ls_if (lt_cmp (lop_eq hr.units) (le_var 0) le_str) (ls_one (ls_ret (le_cmp (lop_ninX (units1 hr)) (le_var 1) (le_tup (la_cons le_str (la_cons le_str la_nil)))))) ls_nil)
    (ls_one (ls_ret (le_or (le_mnin rfl T.ONLY_ (le_var 0)) (le_one (le_cmp (lop_eq hr.units) (le_var 1) (le_mget rfl T.ONLY_ (le_var 0))))))))
theorem ok_without_number {f : Addr} {fd : FuncData} (T : Txt K mg w.params) (F : Fun K "without_number" "without_number" s_without_number f fd) :
    FnOk P w K mg base CX0 1 f fd p_without_number (spF K 2 F_without_number) :=
  fn_def (k := 0) (N := N_without_number) (ps := p_without_number) F sc_without_number fun cdv A outer s H E hr => by
  have nd := sc_without_number.nd
  exact (ls_one (ls_ret (le_callTy lc_tuple rfl T.tuple_ (by decide +kernel) (la_cons (le_lc (own := [("held", 2)]) rfl nd (li_tup (le_var 0)) (blkOk_by (own := [("held", 2)]) (N := N_without_number) (sc := defScope s_without_number) (by decide +kernel)) (fun _ _ _ _ _ => (lg_name nd)) (fun _ _ _ _ _ => (lts_one (lt_cmp (lop_ne hr.units) (le_var 2) (le_var 1)))) (fun _ _ _ _ _ => (le_var 2))) la_nil))))
theorem ok_with_number {f : Addr} {fd : FuncData} (T : Txt K mg w.params) {f_without_number : Addr} {fd_without_number : FuncData} (G_without_number : FnOk P w K mg base CX0 1 f_without_number fd_without_number p_without_number (spF K 2 F_without_number)) (m_without_number : mg "without_number" = some (.ref f_without_number)) (k_without_number : PySem.W.keepIn K (.ref f_without_number) = true) (b_without_number : Binds K fd_without_number p_without_number []) (F : Fun K "with_number" "with_number" s_with_number f fd) :
    FnOk P w K mg base CX0 2 f fd p_with_number (spF K 2 F_with_number) :=
  fn_def (k := 1) (N := N_with_number) (ps := p_with_number) F sc_with_number fun cdv A outer s H E hr => by
  have nd := sc_with_number.nd
  exact (ls_cons (ls_asg (le_call G_without_number (hr.mono (by decide)) rfl m_without_number k_without_number b_without_number pass0 (la_cons (le_var 0) (la_cons (le_var 1) la_nil)) (hcl := (cCons_len (cCons_len cNil_len)))) (lg_name nd))
    (ls_one (ls_ret (le_callTy lc_tuple rfl T.tuple_ (by decide +kernel) (la_cons (le_callB lc_sorted rfl T.sorted_ (by decide +kernel) (la_cons (le_lst (la_star (le_var 2) (la_cons (le_var 1) la_nil))) la_nil)) la_nil)))))
theorem okx_changed {f : Addr} {fd : FuncData} (T : Txt K mg w.params) {f_without_number : Addr} {fd_without_number : FuncData} (G_without_number : FnOk P w K mg base CX0 1 f_without_number fd_without_number p_without_number (spF K 2 F_without_number)) (m_without_number : mg "without_number" = some (.ref f_without_number)) (k_without_number : PySem.W.keepIn K (.ref f_without_number) = true) (b_without_number : Binds K fd_without_number p_without_number []) {f_with_number : Addr} {fd_with_number : FuncData} (G_with_number : FnOk P w K mg base CX0 2 f_with_number fd_with_number p_with_number (spF K 2 F_with_number)) (m_with_number : mg "with_number" = some (.ref f_with_number)) (k_with_number : PySem.W.keepIn K (.ref f_with_number) = true) (b_with_number : Binds K fd_with_number p_with_number []) {f_suits : Addr} {fd_suits : FuncData} (G_suits : FnOk P w K mg base CX0 1 f_suits fd_suits p_suits (spF K 2 F_suits)) (m_suits : mg "suits" = some (.ref f_suits)) (k_suits : PySem.W.keepIn K (.ref f_suits) = true) (b_suits : Binds K fd_suits p_suits []) (XR_NoStep : XR P w K mg base "NoStep" ["word"]) (F : Fun K "changed" "changed" s_changed f fd) :
    FnOk P w K mg base (CXE P w) 3 f fd p_changed (spX K 4 R_changed) :=
  fnx_def (k := 2) (N := N_changed) (ps := p_changed) F sc_changed fun cdv A outer s H E hr => by
  have nd := sc_changed.nd
  exact (lr_head (lr1_if (LW.lt (lw_or (lt_cmp lop_nin (le_var 2) (le_globT2 rfl T.WRITING_)) (lw_or1 (lt_not (lt_truth (le_call G_suits (hr.mono (by decide)) rfl m_suits k_suits b_suits pass0 (la_cons (le_var 2) (la_cons (le_var 0) la_nil)) (hcl := (cCons_len (cCons_len cNil_len))))))))) (lr_head (lr1_raise (k := 0) XR_NoStep (hr.mono (by decide)) rfl rfl (la_cons (le_var 2) la_nil))) lr_no))
theorem ok_changed {f : Addr} {fd : FuncData} (T : Txt K mg w.params) {f_without_number : Addr} {fd_without_number : FuncData} (G_without_number : FnOk P w K mg base CX0 1 f_without_number fd_without_number p_without_number (spF K 2 F_without_number)) (m_without_number : mg "without_number" = some (.ref f_without_number)) (k_without_number : PySem.W.keepIn K (.ref f_without_number) = true) (b_without_number : Binds K fd_without_number p_without_number []) {f_with_number : Addr} {fd_with_number : FuncData} (G_with_number : FnOk P w K mg base CX0 2 f_with_number fd_with_number p_with_number (spF K 2 F_with_number)) (m_with_number : mg "with_number" = some (.ref f_with_number)) (k_with_number : PySem.W.keepIn K (.ref f_with_number) = true) (b_with_number : Binds K fd_with_number p_with_number []) {f_suits : Addr} {fd_suits : FuncData} (G_suits : FnOk P w K mg base CX0 1 f_suits fd_suits p_suits (spF K 2 F_suits)) (m_suits : mg "suits" = some (.ref f_suits)) (k_suits : PySem.W.keepIn K (.ref f_suits) = true) (b_suits : Binds K fd_suits p_suits []) (F : Fun K "changed" "changed" s_changed f fd) :
    FnOk P w K mg base CX0 3 f fd p_changed (spF K 4 F_changed) :=
  fn_def (k := 2) (N := N_changed) (ps := p_changed) F sc_changed fun cdv A outer s H E hr => by
  have nd := sc_changed.nd
  exact (ls_cons (ls_if (LW.lt (lw_or (lt_cmp lop_nin (le_var 2) (le_globT2 rfl T.WRITING_)) (lw_or1 (lt_not (lt_truth (le_call G_suits (hr.mono (by decide)) rfl m_suits k_suits b_suits pass0 (la_cons (le_var 2) (la_cons (le_var 0) la_nil)) (hcl := (cCons_len (cCons_len cNil_len))))))))) (ls_one ls_never) ls_nil)
    (ls_cons (ls_if (lt_cmp (lop_eq hr.units) (le_var 2) le_str) (ls_one (ls_ret (le_var 3))) ls_nil)
    (ls_cons (ls_if (lt_cmp (lop_eq hr.units) (le_var 2) le_str) (ls_one (ls_ret (le_op lop_add (le_var 1) (le_var 3)))) ls_nil)
    (ls_cons (ls_if (lt_cmp (lop_eq hr.units) (le_var 2) le_str) (ls_one (ls_ret (le_call G_with_number (hr.mono (by decide)) rfl m_with_number k_with_number b_with_number pass0 (la_cons (le_var 1) (la_cons (le_var 3) la_nil)) (hcl := (cCons_len (cCons_len cNil_len)))))) ls_nil)
    (ls_cons (ls_if (lt_cmp (lop_eq hr.units) (le_var 2) le_str) (ls_one (ls_ret (le_call G_without_number (hr.mono (by decide)) rfl m_without_number k_without_number b_without_number pass0 (la_cons (le_var 1) (la_cons (le_var 3) la_nil)) (hcl := (cCons_len (cCons_len cNil_len)))))) ls_nil)
    (ls_one (ls_ret (le_tup (la_star (le_var 1) (la_cons (le_var 3) la_nil))))))))))
theorem ok__law_feed {f : Addr} {fd : FuncData} (T : Txt K mg w.params) (F : Fun K "_law_feed" "_law_feed" s__law_feed f fd) :
    FnOk P w K mg base CX0 1 f fd p__law_feed (spF K 1 F__law_feed) :=
  fn_def (k := 0) (N := N__law_feed) (ps := p__law_feed) F sc__law_feed fun cdv A outer s H E hr => by
  have nd := sc__law_feed.nd
  exact (ls_one (ls_ret (le_dict (lp_cons le_str (le_callTy lc_list rfl T.list_ (by decide +kernel) (la_cons (le_slice (le_var 0) lo_none (lo_some le_int)) la_nil)) (lp_cons le_str le_int (lp_cons le_str le_int (lp_cons le_str le_int lp_nil)))) (fun ρ m ps m' e => by rw [(cPCons_len (cPCons_len (cPCons_len (cPCons_len cPNil_len)))) ρ m ps m' e]; decide))))
theorem ok__law_draw {f : Addr} {fd : FuncData} (T : Txt K mg w.params) (F : Fun K "_law_draw" "_law_draw" s__law_draw f fd) :
    FnOk P w K mg base CX0 1 f fd p__law_draw (spF K 2 F__law_draw) :=
  fn_def (k := 0) (N := N__law_draw) (ps := p__law_draw) F sc__law_draw fun cdv A outer s H E hr => by
  have nd := sc__law_draw.nd
  exact (ls_cons (ls_dput (hu_of hr) (le_var 0) le_str (le_op lop_add (le_dget (hu_of hr) (le_var 0) le_str) le_int))
    (ls_cons (ls_if (lt_cmp lop_gt (le_dget (hu_of hr) (le_var 0) le_str) le_int) (ls_cons (ls_asg (le_op lop_mod (le_dget (hu_of hr) (le_var 0) le_str) (le_var 1)) (lg_name nd))
    (ls_cons (ls_dput (hu_of hr) (le_var 0) le_str (le_op lop_fdiv (le_dget (hu_of hr) (le_var 0) le_str) (le_var 1)))
    (ls_one (ls_ret (le_var 5))))) ls_nil)
    (ls_cons (ls_asg (le_dget (hu_of hr) (le_var 0) le_str) (lg_name nd))
    (ls_cons (ls_dput (hu_of hr) (le_var 0) le_str (le_op lop_add (le_var 2) le_int))
    (ls_cons (ls_asg (le_if (lt_cmp (lop_ne hr.units) (le_dget (hu_of hr) (le_var 0) le_str) (le_lst la_nil)) (le_ix (le_dget (hu_of hr) (le_var 0) le_str) (le_op lop_mod (le_var 2) (le_callB lc_len rfl T.len_ (by decide +kernel) (la_cons (le_dget (hu_of hr) (le_var 0) le_str) la_nil)))) le_int) (lg_name nd))
    (ls_cons (ls_if (LW.lt (lw_and (lt_cmp lop_ge (le_var 3) (le_op lop_pow le_int le_int)) (lw_and1 (lt_cmp lop_lt (le_var 2) (le_callB lc_len rfl T.len_ (by decide +kernel) (la_cons (le_dget (hu_of hr) (le_var 0) le_str) la_nil)))))) (ls_cons (ls_dput (hu_of hr) (le_var 0) le_str (le_op lop_fdiv (le_var 3) (le_var 1)))
    (ls_one (ls_ret (le_op lop_mod (le_var 3) (le_var 1))))) ls_nil)
    (ls_cons (ls_asg (le_op lop_mod (le_op lop_add (le_op lop_add (le_op lop_mod (le_var 3) le_int) (le_op lop_mul le_int (le_dget (hu_of hr) (le_var 0) le_str))) le_int) le_int) (lg_name nd))
    (ls_cons (ls_asg (le_op lop_mod (le_op lop_add (le_op lop_add (le_op lop_mul (le_var 4) (le_var 4)) (le_op lop_mul le_int (le_dget (hu_of hr) (le_var 0) le_str))) le_int) le_int) (lg_name nd))
    (ls_one (ls_ret (le_op lop_mod (le_op lop_fdiv (le_op lop_mod (le_op lop_add (le_op lop_mul (le_var 4) (le_var 4)) (le_op lop_mul le_int (le_var 4))) le_int) le_int) (le_var 1))))))))))))
theorem ok__law_number {f : Addr} {fd : FuncData} (T : Txt K mg w.params) {f__law_draw : Addr} {fd__law_draw : FuncData} (G__law_draw : FnOk P w K mg base CX0 1 f__law_draw fd__law_draw p__law_draw (spF K 2 F__law_draw)) (m__law_draw : mg "_law_draw" = some (.ref f__law_draw)) (k__law_draw : PySem.W.keepIn K (.ref f__law_draw) = true) (b__law_draw : Binds K fd__law_draw p__law_draw []) (F : Fun K "_law_number" "_law_number" s__law_number f fd) :
    FnOk P w K mg base CX0 2 f fd p__law_number (spF K 1 F__law_number) :=
  fn_def (k := 1) (N := N__law_number) (ps := p__law_number) F sc__law_number fun cdv A outer s H E hr => by
  have nd := sc__law_number.nd
  exact (ls_cons (ls_par rfl nd (by decide) (la_cons (le_call G__law_draw (hr.mono (by decide)) rfl m__law_draw k__law_draw b__law_draw pass0 (la_cons (le_var 0) (la_cons le_int la_nil)) (hcl := (cCons_len (cCons_len cNil_len)))) (la_cons (le_op lop_sub (le_call G__law_draw (hr.mono (by decide)) rfl m__law_draw k__law_draw b__law_draw pass0 (la_cons (le_var 0) (la_cons le_int la_nil)) (hcl := (cCons_len (cCons_len cNil_len)))) le_int) la_nil)))
    (ls_cons (ls_asg (le_op lop_mul (le_ix (le_lst (la_cons (le_op lop_sub (le_op lop_pow le_int le_int) (le_var 2)) (la_cons (le_op lop_add (le_op lop_pow le_int le_int) (le_var 2)) la_nil))) (le_call G__law_draw (hr.mono (by decide)) rfl m__law_draw k__law_draw b__law_draw pass0 (la_cons (le_var 0) (la_cons le_int la_nil)) (hcl := (cCons_len (cCons_len cNil_len))))) (le_ix (le_lst (la_cons le_int (la_cons (le_neg le_int) la_nil))) (le_call G__law_draw (hr.mono (by decide)) rfl m__law_draw k__law_draw b__law_draw pass0 (la_cons (le_var 0) (la_cons le_int la_nil)) (hcl := (cCons_len (cCons_len cNil_len)))))) (lg_name nd))
    (ls_one (ls_ret (le_ix (le_lst (la_cons (le_var 2) (la_cons (le_op lop_sub (le_var 2) le_int) (la_cons (le_var 3) (la_cons (le_var 2) (la_cons (le_op lop_sub (le_var 2) le_int) (la_cons (le_var 3) (la_cons le_int (la_cons (le_var 1) la_nil))))))))) (le_call G__law_draw (hr.mono (by decide)) rfl m__law_draw k__law_draw b__law_draw pass0 (la_cons (le_var 0) (la_cons le_int la_nil)) (hcl := (cCons_len (cCons_len cNil_len)))))))))
theorem st__law_sum {n : Nat} {f__law_sum : Addr} {fd__law_sum : FuncData} (T : Txt K mg w.params) {f__law_draw : Addr} {fd__law_draw : FuncData} (G__law_draw : FnOk P w K mg base CX0 1 f__law_draw fd__law_draw p__law_draw (spF K 2 F__law_draw)) (m__law_draw : mg "_law_draw" = some (.ref f__law_draw)) (k__law_draw : PySem.W.keepIn K (.ref f__law_draw) = true) (b__law_draw : Binds K fd__law_draw p__law_draw []) (F : Fun K "_law_sum" "_law_sum" s__law_sum f__law_sum fd__law_sum) (G__law_sum : FnOk P w K mg base CX0 (2 + n) f__law_sum fd__law_sum p__law_sum (spF K 3 (F__law_sum n))) (m__law_sum : mg "_law_sum" = some (.ref f__law_sum)) (k__law_sum : PySem.W.keepIn K (.ref f__law_sum) = true) (b__law_sum : Binds K fd__law_sum p__law_sum []) :
    FnOk P w K mg base CX0 (2 + n + 1) f__law_sum fd__law_sum p__law_sum (spF K 3 (F__law_sum (n + 1))) :=
  fn_def (k := 2 + n) (N := N__law_sum) (ps := p__law_sum) F sc__law_sum fun cdv A outer s H E hr => by
  have nd := sc__law_sum.nd
  exact (ls_cons (ls_asg (le_op lop_add (le_lst (la_cons le_str (la_cons le_str (la_cons le_str (la_cons le_str (la_cons le_str la_nil)))))) (le_op lop_rep (le_lst (la_cons le_str la_nil)) (le_callTy lc_int rfl T.int_ (by decide +kernel) (la_cons (le_var 2) la_nil)))) (lg_name nd))
    (ls_cons (ls_asg (le_ix (le_var 3) (le_call G__law_draw (hr.mono (by omega)) rfl m__law_draw k__law_draw b__law_draw pass0 (la_cons (le_var 0) (la_cons (le_if (lt_cmp lop_gt (le_var 1) le_int) (le_callB lc_len rfl T.len_ (by decide +kernel) (la_cons (le_var 3) la_nil)) le_int) la_nil)) (hcl := (cCons_len (cCons_len cNil_len))))) (lg_name nd))
    (ls_cons (ls_if (lt_cmp (lop_eq hr.units) (le_var 4) le_str) (ls_one (ls_ret (le_tup (la_cons (le_var 4) (la_cons (le_ix (le_lst (la_cons le_int (la_cons le_int (la_cons le_int (la_cons (le_neg le_int) (la_cons (le_op lop_pow le_int le_int) (la_cons (le_op lop_sub (le_call G__law_draw (hr.mono (by omega)) rfl m__law_draw k__law_draw b__law_draw pass0 (la_cons (le_var 0) (la_cons le_int la_nil)) (hcl := (cCons_len (cCons_len cNil_len)))) le_int) la_nil))))))) (le_call G__law_draw (hr.mono (by omega)) rfl m__law_draw k__law_draw b__law_draw pass0 (la_cons (le_var 0) (la_cons le_int la_nil)) (hcl := (cCons_len (cCons_len cNil_len))))) la_nil))))) ls_nil)
    (ls_cons (ls_if (lt_cmp (lop_eq hr.units) (le_var 4) le_str) (ls_one (ls_ret (le_tup (la_cons (le_var 4) (la_cons (le_ix (le_lst (la_cons le_str (la_cons le_str (la_cons le_str (la_cons le_str (la_cons le_str (la_cons le_str la_nil))))))) (le_call G__law_draw (hr.mono (by omega)) rfl m__law_draw k__law_draw b__law_draw pass0 (la_cons (le_var 0) (la_cons le_int la_nil)) (hcl := (cCons_len (cCons_len cNil_len))))) la_nil))))) ls_nil)
    (ls_cons (ls_asg (le_call G__law_sum (hr.mono (by omega)) rfl m__law_sum k__law_sum b__law_sum pass0 (la_cons (le_var 0) (la_cons (le_op lop_sub (le_var 1) le_int) (la_cons (le_var 2) la_nil))) (hcl := (cCons_len (cCons_len (cCons_len cNil_len))))) (lg_name nd))
    (ls_one (ls_ret (le_tup (la_cons (le_var 4) (la_cons (le_var 5) (la_cons (le_call G__law_sum (hr.mono (by omega)) rfl m__law_sum k__law_sum b__law_sum pass0 (la_cons (le_var 0) (la_cons (le_op lop_sub (le_var 1) le_int) (la_cons (le_var 2) la_nil))) (hcl := (cCons_len (cCons_len (cCons_len cNil_len))))) la_nil)))))))))))
theorem ok__law_sum {f__law_sum : Addr} {fd__law_sum : FuncData} (T : Txt K mg w.params) {f__law_draw : Addr} {fd__law_draw : FuncData} (G__law_draw : FnOk P w K mg base CX0 1 f__law_draw fd__law_draw p__law_draw (spF K 2 F__law_draw)) (m__law_draw : mg "_law_draw" = some (.ref f__law_draw)) (k__law_draw : PySem.W.keepIn K (.ref f__law_draw) = true) (b__law_draw : Binds K fd__law_draw p__law_draw []) (F : Fun K "_law_sum" "_law_sum" s__law_sum f__law_sum fd__law_sum) (m__law_sum : mg "_law_sum" = some (.ref f__law_sum)) (k__law_sum : PySem.W.keepIn K (.ref f__law_sum) = true) (b__law_sum : Binds K fd__law_sum p__law_sum []) :
    ∀ n : Nat, FnOk P w K mg base CX0 (2 + n) f__law_sum fd__law_sum p__law_sum (spF K 3 (F__law_sum n))
  | 0 => fn_none
  | n + 1 => st__law_sum T G__law_draw m__law_draw k__law_draw b__law_draw F (ok__law_sum T G__law_draw m__law_draw k__law_draw b__law_draw F m__law_sum k__law_sum b__law_sum n) m__law_sum k__law_sum b__law_sum
theorem ok__law_has {f : Addr} {fd : FuncData} (T : Txt K mg w.params) {f__law_draw : Addr} {fd__law_draw : FuncData} (G__law_draw : FnOk P w K mg base CX0 1 f__law_draw fd__law_draw p__law_draw (spF K 2 F__law_draw)) (m__law_draw : mg "_law_draw" = some (.ref f__law_draw)) (k__law_draw : PySem.W.keepIn K (.ref f__law_draw) = true) (b__law_draw : Binds K fd__law_draw p__law_draw []) {f__law_number : Addr} {fd__law_number : FuncData} (G__law_number : FnOk P w K mg base CX0 2 f__law_number fd__law_number p__law_number (spF K 1 F__law_number)) (m__law_number : mg "_law_number" = some (.ref f__law_number)) (k__law_number : PySem.W.keepIn K (.ref f__law_number) = true) (b__law_number : Binds K fd__law_number p__law_number []) (F : Fun K "_law_has" "_law_has" s__law_has f fd) :
    FnOk P w K mg base CX0 3 f fd p__law_has (spF K 2 F__law_has) :=
  fn_def (k := 2) (N := N__law_has) (ps := p__law_has) F sc__law_has fun cdv A outer s H E hr => by
  have nd := sc__law_has.nd
  exact (ls_cons (ls_if (lt_cmp (lop_ninX (units1 hr)) (le_var 1) (le_tup (la_cons le_str (la_cons le_str la_nil)))) (ls_one (ls_ret (le_call G__law_number (hr.mono (by decide)) rfl m__law_number k__law_number b__law_number pass0 (la_cons (le_var 0) la_nil) (hcl := (cCons_len cNil_len))))) ls_nil)
    (ls_cons (ls_asg (le_lst (la_cons (le_call G__law_draw (hr.mono (by decide)) rfl m__law_draw k__law_draw b__law_draw pass0 (la_cons (le_var 0) (la_cons le_int la_nil)) (hcl := (cCons_len (cCons_len cNil_len)))) (la_cons (le_call G__law_draw (hr.mono (by decide)) rfl m__law_draw k__law_draw b__law_draw pass0 (la_cons (le_var 0) (la_cons le_int la_nil)) (hcl := (cCons_len (cCons_len cNil_len)))) (la_cons le_int la_nil)))) (lg_name nd))
    (ls_cons (ls_asg (le_lc (own := [("_law_k", 4)]) rfl nd (li_range rfl T.range_ (la_cons (le_ix (le_var 2) (le_op lop_fdiv (le_call G__law_draw (hr.mono (by decide)) rfl m__law_draw k__law_draw b__law_draw pass0 (la_cons (le_var 0) (la_cons le_int la_nil)) (hcl := (cCons_len (cCons_len cNil_len)))) le_int)) la_nil)) (blkOk_by (own := [("_law_k", 4)]) (N := N__law_has) (sc := defScope s__law_has) (by decide +kernel)) (fun _ _ _ _ _ => (lg_name nd)) (fun _ _ _ _ _ => lts_nil) (fun _ _ _ _ _ => (le_op lop_sub (le_call G__law_draw (hr.mono (by decide)) rfl m__law_draw k__law_draw b__law_draw pass0 (la_cons (le_var 0) (la_cons le_int la_nil)) (hcl := (cCons_len (cCons_len cNil_len)))) le_int))) (lg_name nd))
    (ls_cons (ls_asg (le_lc (own := [("_law_k", 4), ("_law_figure", 5)]) rfl nd (li_enum rfl T.enumerate_ (la_cons (le_var 3) la_nil)) (blkOk_by (own := [("_law_k", 4), ("_law_figure", 5)]) (N := N__law_has) (sc := defScope s__law_has) (by decide +kernel)) (fun _ _ _ _ _ => (lg_tup rfl (lgs_cons (lg_name nd) (lgs_cons (lg_name nd) lgs_nil)))) (fun _ _ _ _ _ => lts_nil) (fun _ _ _ _ _ => (le_op lop_add (le_var 5) (le_op lop_mul (le_op lop_fdiv (le_var 4) le_int) (le_callTy lc_int rfl T.int_ (by decide +kernel) (la_cons (le_cmp lop_gt (le_callB lc_len rfl T.len_ (by decide +kernel) (la_cons (le_var 3) la_nil)) le_int) la_nil))))) (hgl := (gTupD_len (gsCons_len gSet_len (gsCons_len gSet_len gsNil_len))))) (lg_name nd))
    (ls_one (ls_ret (le_if (lt_cmp (lop_eq hr.units) (le_var 1) le_str) (le_callTy lc_tuple rfl T.tuple_ (by decide +kernel) (la_cons (le_var 3) la_nil)) (le_callTy lc_tuple rfl T.tuple_ (by decide +kernel) (la_cons (le_sortedSet rfl rfl T.sorted_ rfl T.set_ (le_var 3)) la_nil)))))))))
theorem ok__law_kind {f : Addr} {fd : FuncData} (T : Txt K mg w.params) {f__law_draw : Addr} {fd__law_draw : FuncData} (G__law_draw : FnOk P w K mg base CX0 1 f__law_draw fd__law_draw p__law_draw (spF K 2 F__law_draw)) (m__law_draw : mg "_law_draw" = some (.ref f__law_draw)) (k__law_draw : PySem.W.keepIn K (.ref f__law_draw) = true) (b__law_draw : Binds K fd__law_draw p__law_draw []) {f__law_sum : Addr} {fd__law_sum : FuncData} (G__law_sum : FnOk P w K mg base CX0 14 f__law_sum fd__law_sum p__law_sum (spF K 3 (F__law_sum 12))) (m__law_sum : mg "_law_sum" = some (.ref f__law_sum)) (k__law_sum : PySem.W.keepIn K (.ref f__law_sum) = true) (b__law_sum : Binds K fd__law_sum p__law_sum []) (F : Fun K "_law_kind" "_law_kind" s__law_kind f fd) :
    FnOk P w K mg base CX0 15 f fd p__law_kind (spF K 1 F__law_kind) :=
  fn_def (k := 14) (N := N__law_kind) (ps := p__law_kind) F sc__law_kind fun cdv A outer s H E hr => by
  have nd := sc__law_kind.nd
  exact (ls_cons (ls_asg (le_tup (la_cons (le_tup (la_cons le_str (la_cons le_str la_nil))) (la_cons (le_tup (la_cons le_str (la_cons le_str la_nil))) (la_cons (le_tup (la_cons le_str (la_cons le_str la_nil))) la_nil)))) (lg_tup rfl (lgs_cons (lg_name nd) (lgs_cons (lg_name nd) (lgs_cons (lg_name nd) lgs_nil)))))
    (ls_cons (ls_asg (le_lst (la_cons (le_tup (la_cons le_str (la_cons (le_var 4) (la_cons (le_tup (la_cons le_str (la_cons (le_var 5) (la_cons (le_var 3) la_nil)))) la_nil)))) (la_cons (le_var 4) (la_cons (le_var 5) (la_cons (le_tup (la_cons le_str (la_cons (le_var 4) (la_cons (le_tup (la_cons le_str (la_cons (le_var 3) (la_cons (le_var 5) la_nil)))) la_nil)))) la_nil))))) (lg_name nd))
    (ls_cons (ls_asg (le_op lop_add (le_op lop_rep (le_lst (la_cons (le_call G__law_sum (hr.mono (by decide)) rfl m__law_sum k__law_sum b__law_sum pass0 (la_cons (le_var 0) (la_cons (le_op lop_add le_int (le_call G__law_draw (hr.mono (by decide)) rfl m__law_draw k__law_draw b__law_draw pass0 (la_cons (le_var 0) (la_cons le_int la_nil)) (hcl := (cCons_len (cCons_len cNil_len))))) (la_cons (le_cmp (lop_eq hr.units) (le_call G__law_draw (hr.mono (by decide)) rfl m__law_draw k__law_draw b__law_draw pass0 (la_cons (le_var 0) (la_cons le_int la_nil)) (hcl := (cCons_len (cCons_len cNil_len)))) le_int) la_nil))) (hcl := (cCons_len (cCons_len (cCons_len cNil_len))))) la_nil)) le_int) (le_var 1)) (lg_name nd))
    (ls_one (ls_ret (le_ix (le_lst (la_cons le_str (la_cons le_str (la_cons le_str (la_cons le_str (la_cons le_str (la_cons (le_tup (la_cons le_str (la_cons (le_ix (le_var 2) (le_call G__law_draw (hr.mono (by decide)) rfl m__law_draw k__law_draw b__law_draw pass0 (la_cons (le_var 0) (la_cons le_int la_nil)) (hcl := (cCons_len (cCons_len cNil_len))))) la_nil))) la_nil))))))) (le_call G__law_draw (hr.mono (by decide)) rfl m__law_draw k__law_draw b__law_draw pass0 (la_cons (le_var 0) (la_cons le_int la_nil)) (hcl := (cCons_len (cCons_len cNil_len))))))))))
theorem ok__law_due {f : Addr} {fd : FuncData} (T : Txt K mg w.params) (F : Fun K "_law_due" "_law_due" s__law_due f fd) :
    FnOk P w K mg base CX0 1 f fd p__law_due (spF K 4 F__law_due) :=
  fn_def (k := 0) (N := N__law_due) (ps := p__law_due) F sc__law_due fun cdv A outer s H E hr => by
  have nd := sc__law_due.nd
  exact (ls_cons (ls_if (LW.lt (lw_and (lt_cmp (lop_eq hr.units) (le_var 2) le_str) (lw_and1 (lt_cmp (lop_ninX (units1 hr)) (le_var 0) (le_tup (la_cons le_str (la_cons le_str la_nil))))))) (ls_one (ls_ret (le_var 3))) ls_nil)
    (ls_cons (ls_if (LW.lt (lw_and (lt_cmp (lop_eq hr.units) (le_var 2) le_str) (lw_and1 (lt_cmp (lop_eq hr.units) (le_var 0) le_str)))) (ls_one (ls_ret (le_op lop_sub (le_var 1) (le_op lop_sub le_int (le_var 3))))) ls_nil)
    (ls_cons (ls_if (LW.lt (lw_and (lt_cmp (lop_eq hr.units) (le_var 2) le_str) (lw_and1 (lt_cmp (lop_eq hr.units) (le_var 0) le_str)))) (ls_one (ls_ret (le_callTy lc_tuple rfl T.tuple_ (by decide +kernel) (la_cons (le_op lop_add (le_op lop_add (le_lc (own := [("_law_one", 4)]) rfl nd (li_tup (le_var 1)) (blkOk_by (own := [("_law_one", 4)]) (N := N__law_due) (sc := defScope s__law_due) (by decide +kernel)) (fun _ _ _ _ _ => (lg_name nd)) (fun _ _ _ _ _ => (lts_one (lt_cmp lop_lt (le_var 4) (le_var 3)))) (fun _ _ _ _ _ => (le_var 4))) (le_lst (la_cons (le_var 3) la_nil))) (le_lc (own := [("_law_one", 4)]) rfl nd (li_tup (le_var 1)) (blkOk_by (own := [("_law_one", 4)]) (N := N__law_due) (sc := defScope s__law_due) (by decide +kernel)) (fun _ _ _ _ _ => (lg_name nd)) (fun _ _ _ _ _ => (lts_one (lt_cmp lop_gt (le_var 4) (le_var 3)))) (fun _ _ _ _ _ => (le_var 4)))) la_nil)))) ls_nil)
    (ls_cons (ls_if (LW.lt (lw_and (lt_cmp (lop_eq hr.units) (le_var 2) le_str) (lw_and1 (lt_cmp (lop_eq hr.units) (le_var 0) le_str)))) (ls_one (ls_ret (le_callTy lc_tuple rfl T.tuple_ (by decide +kernel) (la_cons (le_op lop_add (le_lc (own := [("_law_one", 4)]) rfl nd (li_tup (le_var 1)) (blkOk_by (own := [("_law_one", 4)]) (N := N__law_due) (sc := defScope s__law_due) (by decide +kernel)) (fun _ _ _ _ _ => (lg_name nd)) (fun _ _ _ _ _ => (lts_one (lt_cmp lop_lt (le_var 4) (le_var 3)))) (fun _ _ _ _ _ => (le_var 4))) (le_lc (own := [("_law_one", 4)]) rfl nd (li_tup (le_var 1)) (blkOk_by (own := [("_law_one", 4)]) (N := N__law_due) (sc := defScope s__law_due) (by decide +kernel)) (fun _ _ _ _ _ => (lg_name nd)) (fun _ _ _ _ _ => (lts_one (lt_cmp lop_gt (le_var 4) (le_var 3)))) (fun _ _ _ _ _ => (le_var 4)))) la_nil)))) ls_nil)
    (ls_one (ls_ret (le_if (LW.lt (lw_and (lt_cmp (lop_eq hr.units) (le_var 2) le_str) (lw_and1 (lt_cmp (lop_eq hr.units) (le_var 0) le_str)))) (le_callTy lc_tuple rfl T.tuple_ (by decide +kernel) (la_cons (le_op lop_add (le_callTy lc_list rfl T.list_ (by decide +kernel) (la_cons (le_var 1) la_nil)) (le_lst (la_cons (le_var 3) la_nil))) la_nil)) le_non)))))))
theorem ok__law_told {f : Addr} {fd : FuncData} (T : Txt K mg w.params) {f_changed : Addr} {fd_changed : FuncData} (G_changed : FnOk P w K mg base CX0 3 f_changed fd_changed p_changed (spF K 4 F_changed)) (m_changed : mg "changed" = some (.ref f_changed)) (k_changed : PySem.W.keepIn K (.ref f_changed) = true) (kb_changed_word_number2 : KBinds K fd_changed p_changed ["word", "number"] (apG 2 2 [0, 1, 2, 3]) (apG 2 2 [0, 1, 2, 3])) (GX_changed : FnOk P w K mg base (CXE P w) 3 f_changed fd_changed p_changed (spX K 4 R_changed)) (F : Fun K "_law_told" "_law_told" s__law_told f fd) :
    FnOk P w K mg base CX0 4 f fd p__law_told (spF K 4 F__law_told) :=
  fn_def (k := 3) (N := N__law_told) (ps := p__law_told) F sc__law_told fun cdv A outer s H E hr => by
  have nd := sc__law_told.nd
  exact (ls_cons (ls_try rfl rfl (ls_one (ls_ret (le_tup (la_cons le_str (la_cons (le_callK G_changed (hr.mono (by decide)) rfl m_changed k_changed kb_changed_word_number2 perm_app pass0 (la_cons (le_var 0) (la_cons (le_var 1) la_nil)) (lk_cons (le_var 2) (lk_cons (le_var 3) lk_nil))) la_nil))))) (fun _ _ => (lr_head (lr1_ret (lre_tup (lra_cons le_str (lra_head (lre_callK GX_changed (hr.mono (by decide)) rfl m_changed k_changed kb_changed_word_number2 perm_app (la_cons (le_var 0) (la_cons (le_var 1) la_nil)) (lk_cons (le_var 2) (lk_cons (le_var 3) lk_nil))))))))) (lh_c1 nd rfl T.xt_RunError (fun _ _ => (ls_one (ls_if (LW.lt (lw_and (lt_truth (le_isx (le_var 4) rfl T.isinstance_ rfl T.xt_NoStep)) (lw_and1 (lt_not (lt_truth (le_ist (le_var 4) rfl T.isinstance_ T.xk (.cons rfl T.xt_NoBack (by decide) rfl (.cons rfl T.xt_NoRevision (by decide) rfl (.cons rfl T.xt_PaperError (by decide) rfl (.cons rfl T.xt_TextError (by decide) rfl .nil)))) (Nat.le_of_ble_eq_true rfl))))))) (ls_one (ls_ret (le_tup (la_cons le_str (la_cons (le_xfld T.xf_word (le_var 4)) la_nil))))) ls_nil))) lh_no))
    (ls_one (ls_ret (le_tup (la_cons le_str la_nil)))))
theorem ok_law {f : Addr} {fd : FuncData} (T : Txt K mg w.params) {f__law_number : Addr} {fd__law_number : FuncData} (G__law_number : FnOk P w K mg base CX0 2 f__law_number fd__law_number p__law_number (spF K 1 F__law_number)) (m__law_number : mg "_law_number" = some (.ref f__law_number)) (k__law_number : PySem.W.keepIn K (.ref f__law_number) = true) (b__law_number : Binds K fd__law_number p__law_number []) {f_changed : Addr} {fd_changed : FuncData} (G_changed : FnOk P w K mg base CX0 3 f_changed fd_changed p_changed (spF K 4 F_changed)) (m_changed : mg "changed" = some (.ref f_changed)) (k_changed : PySem.W.keepIn K (.ref f_changed) = true) {f__law_told : Addr} {fd__law_told : FuncData} (G__law_told : FnOk P w K mg base CX0 4 f__law_told fd__law_told p__law_told (spF K 4 F__law_told)) (m__law_told : mg "_law_told" = some (.ref f__law_told)) (k__law_told : PySem.W.keepIn K (.ref f__law_told) = true) (b__law_told : Binds K fd__law_told p__law_told []) {f__law_due : Addr} {fd__law_due : FuncData} (G__law_due : FnOk P w K mg base CX0 1 f__law_due fd__law_due p__law_due (spF K 4 F__law_due)) (m__law_due : mg "_law_due" = some (.ref f__law_due)) (k__law_due : PySem.W.keepIn K (.ref f__law_due) = true) (b__law_due : Binds K fd__law_due p__law_due []) {f__law_draw : Addr} {fd__law_draw : FuncData} (G__law_draw : FnOk P w K mg base CX0 1 f__law_draw fd__law_draw p__law_draw (spF K 2 F__law_draw)) (m__law_draw : mg "_law_draw" = some (.ref f__law_draw)) (k__law_draw : PySem.W.keepIn K (.ref f__law_draw) = true) (b__law_draw : Binds K fd__law_draw p__law_draw []) {f__law_has : Addr} {fd__law_has : FuncData} (G__law_has : FnOk P w K mg base CX0 3 f__law_has fd__law_has p__law_has (spF K 2 F__law_has)) (m__law_has : mg "_law_has" = some (.ref f__law_has)) (k__law_has : PySem.W.keepIn K (.ref f__law_has) = true) (b__law_has : Binds K fd__law_has p__law_has []) {f__law_kind : Addr} {fd__law_kind : FuncData} (G__law_kind : FnOk P w K mg base CX0 15 f__law_kind fd__law_kind p__law_kind (spF K 1 F__law_kind)) (m__law_kind : mg "_law_kind" = some (.ref f__law_kind)) (k__law_kind : PySem.W.keepIn K (.ref f__law_kind) = true) (b__law_kind : Binds K fd__law_kind p__law_kind []) {f__law_feed : Addr} {fd__law_feed : FuncData} (G__law_feed : FnOk P w K mg base CX0 1 f__law_feed fd__law_feed p__law_feed (spF K 1 F__law_feed)) (m__law_feed : mg "_law_feed" = some (.ref f__law_feed)) (k__law_feed : PySem.W.keepIn K (.ref f__law_feed) = true) (b__law_feed : Binds K fd__law_feed p__law_feed []) (kb_changed_number_has_kind_word0 : KBinds K fd_changed p_changed ["number", "has", "kind", "word"] (apG 0 4 [2, 1, 3, 0]) (apG 0 4 [2, 1, 3, 0])) (F : Fun K "law" "law" s_law f fd) :
    FnOk P w K mg base CX0 16 f fd p_law (spF K 1 F_law) :=
  fn_def (k := 15) (N := N_law) (ps := p_law) F sc_law fun cdv A outer s H E hr => by
  have nd := sc_law.nd
  exact (ls_cons (ls_asg (le_call G__law_feed (hr.mono (by decide)) rfl m__law_feed k__law_feed b__law_feed pass0 (la_cons (le_var 0) la_nil) (hcl := (cCons_len cNil_len))) (lg_name nd))
    (ls_cons (ls_asg (le_op lop_add (le_lc (own := [("_law_k", 9)]) rfl nd (li_range rfl T.range_ (la_cons le_int la_nil)) (blkOk_by (own := [("_law_k", 9)]) (N := N_law) (sc := defScope s_law) (by decide +kernel)) (fun _ _ _ _ _ => (lg_name nd)) (fun _ _ _ _ _ => lts_nil) (fun _ _ _ _ _ => (le_call G__law_kind (hr.mono (by decide)) rfl m__law_kind k__law_kind b__law_kind pass0 (la_cons (le_var 1) la_nil) (hcl := (cCons_len cNil_len))))) (le_lst (la_cons le_str (la_cons le_str (la_cons le_str (la_cons le_str (la_cons le_str la_nil))))))) (lg_name nd))
    (ls_cons (ls_for PassesOwn.never rfl (li_lst (le_var 2)) (lg_name nd) (ls_cons (ls_asg (le_call G__law_has (hr.mono (by decide)) rfl m__law_has k__law_has b__law_has pass0 (la_cons (le_var 1) (la_cons (le_var 3) la_nil)) (hcl := (cCons_len (cCons_len cNil_len)))) (lg_name nd))
    (ls_cons (ls_asg (le_if (LW.lt (lw_and (lt_truth (le_isi (le_var 4) rfl T.isinstance_ rfl T.tuple_ (by decide +kernel))) (lw_and1 (lt_cmp (lop_ne hr.units) (le_var 4) (le_tup la_nil))))) (le_ix (le_var 4) (le_call G__law_draw (hr.mono (by decide)) rfl m__law_draw k__law_draw b__law_draw pass0 (la_cons (le_var 1) (la_cons (le_callB lc_len rfl T.len_ (by decide +kernel) (la_cons (le_var 4) la_nil)) la_nil)) (hcl := (cCons_len (cCons_len cNil_len))))) le_int) (lg_name nd))
    (ls_cons (ls_asg (le_callB (lc_rpr hr.gd hr.units) rfl T.repr_ (by decide +kernel) (la_cons (le_tup (la_cons (le_var 3) (la_cons (le_var 4) la_nil))) la_nil)) (lg_name nd))
    (ls_cons (ls_for PassesOwn.never rfl (li_tup (le_tup (la_cons (le_var 5) (la_cons (le_call G__law_number (hr.mono (by decide)) rfl m__law_number k__law_number b__law_number pass0 (la_cons (le_var 1) la_nil) (hcl := (cCons_len cNil_len))) (la_cons (le_neg le_int) (la_cons le_int la_nil)))))) (lg_name nd) (ls_cons (ls_for PassesOwn.never rfl (li_tup (le_tup (la_cons le_str (la_cons le_str (la_cons le_str (la_cons le_str (la_cons le_str (la_cons le_str (la_cons le_str (la_cons le_str (la_cons le_str (la_cons le_str la_nil)))))))))))) (lg_name nd) (ls_cons (ls_asg (le_call G__law_due (hr.mono (by decide)) rfl m__law_due k__law_due b__law_due pass0 (la_cons (le_var 3) (la_cons (le_var 4) (la_cons (le_var 8) (la_cons (le_var 7) la_nil)))) (hcl := (cCons_len (cCons_len (cCons_len (cCons_len cNil_len)))))) (lg_name nd))
    (ls_cons (ls_asg (le_if (lt_cmp lop_is (le_var 10) le_non) (le_tup (la_cons le_str (la_cons (le_var 8) la_nil))) (le_tup (la_cons le_str (la_cons (le_var 10) la_nil)))) (lg_name nd))
    (ls_one (ls_if (lt_cmp (lop_ne hr.units) (le_callB (lc_rpr hr.gd hr.units) rfl T.repr_ (by decide +kernel) (la_cons (le_call G__law_told (hr.mono (by decide)) rfl m__law_told k__law_told b__law_told pass0 (la_cons (le_var 3) (la_cons (le_var 4) (la_cons (le_var 8) (la_cons (le_var 7) la_nil)))) (hcl := (cCons_len (cCons_len (cCons_len (cCons_len cNil_len)))))) la_nil)) (le_callB (lc_rpr hr.gd hr.units) rfl T.repr_ (by decide +kernel) (la_cons (le_var 11) la_nil))) (ls_one (ls_ret le_bl)) ls_nil)))))
    (ls_one (ls_if (LW.lt (lw_and (lt_cmp (lop_ninX (units1 hr)) (le_var 3) (le_tup (la_cons le_str (la_cons le_str la_nil)))) (lw_and1 (lt_cmp (lop_ne hr.units) (le_callK0 G_changed (hr.mono (by decide)) rfl m_changed k_changed kb_changed_number_has_kind_word0 perm_app pass0 (lk_cons (le_var 7) (lk_cons (le_var 4) (lk_cons (le_var 3) (lk_cons le_str lk_nil))))) (le_var 7))))) (ls_one (ls_ret le_bl)) ls_nil))))
    (ls_one (ls_if (lt_cmp (lop_ne hr.units) (le_callB (lc_rpr hr.gd hr.units) rfl T.repr_ (by decide +kernel) (la_cons (le_tup (la_cons (le_var 3) (la_cons (le_var 4) la_nil))) la_nil)) (le_var 6)) (ls_one (ls_ret le_bl)) ls_nil)))))))
    (ls_one (ls_ret le_bl)))))
end
theorem all_mk {l : PySem.W.OpenLaw} {w : World} {K : PySem.W.Frag} {h : Heap} {mg : Str → Option Value} {fa : Addr} (X : K.In h) (G : h.Ns mainGlobals mg) (hfa : mg "law" = some (.ref fa))
    {f_suits : Addr} {od_suits an_suits : Option Addr} {sl_suits : Array (Option Value)} {oc_suits kV_suits dc_suits pm_suits cd_suits ct_suits : Value}
    (a_suits : PySem.W.nsIn K mainGlobals "suits" = some (some (.ref f_suits))) (l_suits : K.lookup f_suits = some ⟨oc_suits, od_suits, .func (PySem.W.fnOf "suits" "suits" (defArgs s_suits) (defBody s_suits) (defScope s_suits) .none kV_suits dc_suits pm_suits an_suits cd_suits ct_suits), sl_suits⟩) (c_suits : PySem.W.codeIn K cd_suits "suits" = true) (k_suits : PySem.W.keepIn K (.ref f_suits) = true)
    {f_without_number : Addr} {od_without_number an_without_number : Option Addr} {sl_without_number : Array (Option Value)} {oc_without_number kV_without_number dc_without_number pm_without_number cd_without_number ct_without_number : Value}
    (a_without_number : PySem.W.nsIn K mainGlobals "without_number" = some (some (.ref f_without_number))) (l_without_number : K.lookup f_without_number = some ⟨oc_without_number, od_without_number, .func (PySem.W.fnOf "without_number" "without_number" (defArgs s_without_number) (defBody s_without_number) (defScope s_without_number) .none kV_without_number dc_without_number pm_without_number an_without_number cd_without_number ct_without_number), sl_without_number⟩) (c_without_number : PySem.W.codeIn K cd_without_number "without_number" = true) (k_without_number : PySem.W.keepIn K (.ref f_without_number) = true)
    {f_with_number : Addr} {od_with_number an_with_number : Option Addr} {sl_with_number : Array (Option Value)} {oc_with_number kV_with_number dc_with_number pm_with_number cd_with_number ct_with_number : Value}
    (a_with_number : PySem.W.nsIn K mainGlobals "with_number" = some (some (.ref f_with_number))) (l_with_number : K.lookup f_with_number = some ⟨oc_with_number, od_with_number, .func (PySem.W.fnOf "with_number" "with_number" (defArgs s_with_number) (defBody s_with_number) (defScope s_with_number) .none kV_with_number dc_with_number pm_with_number an_with_number cd_with_number ct_with_number), sl_with_number⟩) (c_with_number : PySem.W.codeIn K cd_with_number "with_number" = true) (k_with_number : PySem.W.keepIn K (.ref f_with_number) = true)
    {f_changed : Addr} {od_changed an_changed : Option Addr} {sl_changed : Array (Option Value)} {oc_changed kV_changed dc_changed pm_changed cd_changed ct_changed : Value}
    (a_changed : PySem.W.nsIn K mainGlobals "changed" = some (some (.ref f_changed))) (l_changed : K.lookup f_changed = some ⟨oc_changed, od_changed, .func (PySem.W.fnOf "changed" "changed" (defArgs s_changed) (defBody s_changed) (defScope s_changed) .none kV_changed dc_changed pm_changed an_changed cd_changed ct_changed), sl_changed⟩) (c_changed : PySem.W.codeIn K cd_changed "changed" = true) (k_changed : PySem.W.keepIn K (.ref f_changed) = true)
    {f__law_feed : Addr} {od__law_feed an__law_feed : Option Addr} {sl__law_feed : Array (Option Value)} {oc__law_feed kV__law_feed dc__law_feed pm__law_feed cd__law_feed ct__law_feed : Value}
    (a__law_feed : PySem.W.nsIn K mainGlobals "_law_feed" = some (some (.ref f__law_feed))) (l__law_feed : K.lookup f__law_feed = some ⟨oc__law_feed, od__law_feed, .func (PySem.W.fnOf "_law_feed" "_law_feed" (defArgs s__law_feed) (defBody s__law_feed) (defScope s__law_feed) .none kV__law_feed dc__law_feed pm__law_feed an__law_feed cd__law_feed ct__law_feed), sl__law_feed⟩) (c__law_feed : PySem.W.codeIn K cd__law_feed "_law_feed" = true) (k__law_feed : PySem.W.keepIn K (.ref f__law_feed) = true)
    {f__law_draw : Addr} {od__law_draw an__law_draw : Option Addr} {sl__law_draw : Array (Option Value)} {oc__law_draw kV__law_draw dc__law_draw pm__law_draw cd__law_draw ct__law_draw : Value}
    (a__law_draw : PySem.W.nsIn K mainGlobals "_law_draw" = some (some (.ref f__law_draw))) (l__law_draw : K.lookup f__law_draw = some ⟨oc__law_draw, od__law_draw, .func (PySem.W.fnOf "_law_draw" "_law_draw" (defArgs s__law_draw) (defBody s__law_draw) (defScope s__law_draw) .none kV__law_draw dc__law_draw pm__law_draw an__law_draw cd__law_draw ct__law_draw), sl__law_draw⟩) (c__law_draw : PySem.W.codeIn K cd__law_draw "_law_draw" = true) (k__law_draw : PySem.W.keepIn K (.ref f__law_draw) = true)
    {f__law_number : Addr} {od__law_number an__law_number : Option Addr} {sl__law_number : Array (Option Value)} {oc__law_number kV__law_number dc__law_number pm__law_number cd__law_number ct__law_number : Value}
    (a__law_number : PySem.W.nsIn K mainGlobals "_law_number" = some (some (.ref f__law_number))) (l__law_number : K.lookup f__law_number = some ⟨oc__law_number, od__law_number, .func (PySem.W.fnOf "_law_number" "_law_number" (defArgs s__law_number) (defBody s__law_number) (defScope s__law_number) .none kV__law_number dc__law_number pm__law_number an__law_number cd__law_number ct__law_number), sl__law_number⟩) (c__law_number : PySem.W.codeIn K cd__law_number "_law_number" = true) (k__law_number : PySem.W.keepIn K (.ref f__law_number) = true)
    {f__law_sum : Addr} {od__law_sum an__law_sum : Option Addr} {sl__law_sum : Array (Option Value)} {oc__law_sum kV__law_sum dc__law_sum pm__law_sum cd__law_sum ct__law_sum : Value}
    (a__law_sum : PySem.W.nsIn K mainGlobals "_law_sum" = some (some (.ref f__law_sum))) (l__law_sum : K.lookup f__law_sum = some ⟨oc__law_sum, od__law_sum, .func (PySem.W.fnOf "_law_sum" "_law_sum" (defArgs s__law_sum) (defBody s__law_sum) (defScope s__law_sum) .none kV__law_sum dc__law_sum pm__law_sum an__law_sum cd__law_sum ct__law_sum), sl__law_sum⟩) (c__law_sum : PySem.W.codeIn K cd__law_sum "_law_sum" = true) (k__law_sum : PySem.W.keepIn K (.ref f__law_sum) = true)
    {f__law_has : Addr} {od__law_has an__law_has : Option Addr} {sl__law_has : Array (Option Value)} {oc__law_has kV__law_has dc__law_has pm__law_has cd__law_has ct__law_has : Value}
    (a__law_has : PySem.W.nsIn K mainGlobals "_law_has" = some (some (.ref f__law_has))) (l__law_has : K.lookup f__law_has = some ⟨oc__law_has, od__law_has, .func (PySem.W.fnOf "_law_has" "_law_has" (defArgs s__law_has) (defBody s__law_has) (defScope s__law_has) .none kV__law_has dc__law_has pm__law_has an__law_has cd__law_has ct__law_has), sl__law_has⟩) (c__law_has : PySem.W.codeIn K cd__law_has "_law_has" = true) (k__law_has : PySem.W.keepIn K (.ref f__law_has) = true)
    {f__law_kind : Addr} {od__law_kind an__law_kind : Option Addr} {sl__law_kind : Array (Option Value)} {oc__law_kind kV__law_kind dc__law_kind pm__law_kind cd__law_kind ct__law_kind : Value}
    (a__law_kind : PySem.W.nsIn K mainGlobals "_law_kind" = some (some (.ref f__law_kind))) (l__law_kind : K.lookup f__law_kind = some ⟨oc__law_kind, od__law_kind, .func (PySem.W.fnOf "_law_kind" "_law_kind" (defArgs s__law_kind) (defBody s__law_kind) (defScope s__law_kind) .none kV__law_kind dc__law_kind pm__law_kind an__law_kind cd__law_kind ct__law_kind), sl__law_kind⟩) (c__law_kind : PySem.W.codeIn K cd__law_kind "_law_kind" = true) (k__law_kind : PySem.W.keepIn K (.ref f__law_kind) = true)
    {f__law_due : Addr} {od__law_due an__law_due : Option Addr} {sl__law_due : Array (Option Value)} {oc__law_due kV__law_due dc__law_due pm__law_due cd__law_due ct__law_due : Value}
    (a__law_due : PySem.W.nsIn K mainGlobals "_law_due" = some (some (.ref f__law_due))) (l__law_due : K.lookup f__law_due = some ⟨oc__law_due, od__law_due, .func (PySem.W.fnOf "_law_due" "_law_due" (defArgs s__law_due) (defBody s__law_due) (defScope s__law_due) .none kV__law_due dc__law_due pm__law_due an__law_due cd__law_due ct__law_due), sl__law_due⟩) (c__law_due : PySem.W.codeIn K cd__law_due "_law_due" = true) (k__law_due : PySem.W.keepIn K (.ref f__law_due) = true)
    {f__law_told : Addr} {od__law_told an__law_told : Option Addr} {sl__law_told : Array (Option Value)} {oc__law_told kV__law_told dc__law_told pm__law_told cd__law_told ct__law_told : Value}
    (a__law_told : PySem.W.nsIn K mainGlobals "_law_told" = some (some (.ref f__law_told))) (l__law_told : K.lookup f__law_told = some ⟨oc__law_told, od__law_told, .func (PySem.W.fnOf "_law_told" "_law_told" (defArgs s__law_told) (defBody s__law_told) (defScope s__law_told) .none kV__law_told dc__law_told pm__law_told an__law_told cd__law_told ct__law_told), sl__law_told⟩) (c__law_told : PySem.W.codeIn K cd__law_told "_law_told" = true) (k__law_told : PySem.W.keepIn K (.ref f__law_told) = true)
    {f_law : Addr} {od_law an_law : Option Addr} {sl_law : Array (Option Value)} {oc_law kV_law dc_law pm_law cd_law ct_law : Value}
    (a_law : PySem.W.nsIn K mainGlobals "law" = some (some (.ref f_law))) (l_law : K.lookup f_law = some ⟨oc_law, od_law, .func (PySem.W.fnOf "law" "law" (defArgs s_law) (defBody s_law) (defScope s_law) .none kV_law dc_law pm_law an_law cd_law ct_law), sl_law⟩) (c_law : PySem.W.codeIn K cd_law "law" = true) (k_law : PySem.W.keepIn K (.ref f_law) = true)
    (z_enumerate : PySem.W.nsIn K mainGlobals "enumerate" = some none)
    (z_int : PySem.W.nsIn K mainGlobals "int" = some none)
    (z_isinstance : PySem.W.nsIn K mainGlobals "isinstance" = some none)
    (z_len : PySem.W.nsIn K mainGlobals "len" = some none)
    (z_list : PySem.W.nsIn K mainGlobals "list" = some none)
    (z_range : PySem.W.nsIn K mainGlobals "range" = some none)
    (z_repr : PySem.W.nsIn K mainGlobals "repr" = some none)
    (z_set : PySem.W.nsIn K mainGlobals "set" = some none)
    (z_sorted : PySem.W.nsIn K mainGlobals "sorted" = some none)
    (z_tuple : PySem.W.nsIn K mainGlobals "tuple" = some none)
    {a_ONLY : Addr} {es_ONLY : Array DictEntry} {n_ONLY : Nat} (z_ONLY : PySem.W.nsIn K mainGlobals "ONLY" = some (some (.ref a_ONLY))) (y_ONLY : K.lookup a_ONLY = some ⟨.type "dict", none, .dict es_ONLY n_ONLY, #[]⟩) (v_ONLY : PySem.W.KeysLit w.params es_ONLY.toList) (x_ONLY : tabIn K 6 es_ONLY.toList = some tab_ONLY) (sy_ONLY : (a_ONLY == sysModules) = false)
    {t_WRITING0 t_WRITING1 t_WRITING2 t_WRITING3 t_WRITING4 : Tok} {a_WRITING : Addr} {n_WRITING : Nat} {sl_WRITING : Array (Option Value)} (z_WRITING : PySem.W.nsIn K mainGlobals "WRITING" = some (some (.ref a_WRITING))) (y_WRITING : K.lookup a_WRITING = some ⟨.type "tuple", none, .seq [.str "write" t_WRITING0, .str "add" t_WRITING1, .str "put" t_WRITING2, .str "take" t_WRITING3, .str "row" t_WRITING4].toArray n_WRITING, sl_WRITING⟩)
    {X_NoStep : Addr} (xa_NoStep : PySem.W.nsIn K mainGlobals "NoStep" = some (some (.ref X_NoStep))) (xe_NoStep : excInI K X_NoStep = true)
    {X_NoBack : Addr} (xa_NoBack : PySem.W.nsIn K mainGlobals "NoBack" = some (some (.ref X_NoBack))) (xe_NoBack : excInI K X_NoBack = true)
    {X_NoRevision : Addr} (xa_NoRevision : PySem.W.nsIn K mainGlobals "NoRevision" = some (some (.ref X_NoRevision))) (xe_NoRevision : excInI K X_NoRevision = true)
    {X_PaperError : Addr} (xa_PaperError : PySem.W.nsIn K mainGlobals "PaperError" = some (some (.ref X_PaperError))) (xe_PaperError : excInI K X_PaperError = true)
    {X_RunError : Addr} (xa_RunError : PySem.W.nsIn K mainGlobals "RunError" = some (some (.ref X_RunError))) (xe_RunError : excInI K X_RunError = true)
    {X_TextError : Addr} (xa_TextError : PySem.W.nsIn K mainGlobals "TextError" = some (some (.ref X_TextError))) (xe_TextError : excInI K X_TextError = true)
    (xhn : PySem.W.specialIn K (.builtin "object.__class__") "__get__" = some (some (.builtin "getset_descriptor.__get__"))) (xtk : PySem.W.takesIn K (.builtin "object.__class__") = some true)
    (xs_NoStep : PySem.W.findIn K (.ref X_NoStep) "__setattr__" = some (some (.builtin "object.__setattr__"))) (xg_NoStep : PySem.W.findIn K (.ref X_NoStep) "__getattribute__" = some (some (.builtin "BaseException.__getattribute__"))) (xh_NoStep : PySem.W.findIn K (.ref X_NoStep) "__getattr__" = some none) (xo_NoStep : (PySem.W.clsIn K X_NoStep).any (fun cd => overIn cd.mro) = true) (xd_NoStep : PySem.W.hasDictIn K X_NoStep = true) (xc_NoStep : PySem.W.findIn K (.ref X_NoStep) "__class__" = some (some (.builtin "object.__class__")))
    {fI_NoStep : Addr} {odI_NoStep anI_NoStep : Option Addr} {slI_NoStep : Array (Option Value)} {ocI_NoStep kVI_NoStep dcI_NoStep pmI_NoStep cdI_NoStep ctI_NoStep : Value} (xi_NoStep : PySem.W.findIn K (.ref X_NoStep) "__init__" = some (some (.ref fI_NoStep))) (xl_NoStep : K.lookup fI_NoStep = some ⟨ocI_NoStep, odI_NoStep, .func (PySem.W.fnOf "__init__" "NoStep.__init__" (defArgs sI_NoStep) (defBody sI_NoStep) (defScope sI_NoStep) .none kVI_NoStep dcI_NoStep pmI_NoStep anI_NoStep cdI_NoStep ctI_NoStep), slI_NoStep⟩) (xcd_NoStep : PySem.W.codeIn K cdI_NoStep "NoStep.__init__" = true) (xkf_NoStep : PySem.W.keepIn K (.ref fI_NoStep) = true) (xfn_NoStep : PySem.W.isFn K (.ref fI_NoStep) = true) (xkc_NoStep : PySem.W.keepIn K (.ref X_NoStep) = true)
    (xn_NoStep_word : PySem.W.findIn K (.ref X_NoStep) "word" = some none)
    (xm_NoStep_NoBack : PySem.W.mroIn K X_NoStep (.ref X_NoBack) = some false) (xq_NoStep_NoBack : PySem.W.kitOne K (.ref X_NoStep) (.ref X_NoBack) = some false)
    (xm_NoStep_NoRevision : PySem.W.mroIn K X_NoStep (.ref X_NoRevision) = some false) (xq_NoStep_NoRevision : PySem.W.kitOne K (.ref X_NoStep) (.ref X_NoRevision) = some false)
    (xm_NoStep_NoStep : PySem.W.mroIn K X_NoStep (.ref X_NoStep) = some true) (xq_NoStep_NoStep : PySem.W.kitOne K (.ref X_NoStep) (.ref X_NoStep) = some true)
    (xm_NoStep_PaperError : PySem.W.mroIn K X_NoStep (.ref X_PaperError) = some false) (xq_NoStep_PaperError : PySem.W.kitOne K (.ref X_NoStep) (.ref X_PaperError) = some false)
    (xm_NoStep_RunError : PySem.W.mroIn K X_NoStep (.ref X_RunError) = some true) (xq_NoStep_RunError : PySem.W.kitOne K (.ref X_NoStep) (.ref X_RunError) = some true)
    (xm_NoStep_TextError : PySem.W.mroIn K X_NoStep (.ref X_TextError) = some false) (xq_NoStep_TextError : PySem.W.kitOne K (.ref X_NoStep) (.ref X_TextError) = some false)
    : ∃ fd : FuncData, (∀ (s : Shared) (v : Value), BindsTo s fd ⟨[v], []⟩ [("_law_script", v)]) ∧ ∀ base : Heap, K.In base → base.Ns mainGlobals mg → FnOk l.prog w K mg base CX0 16 fa fd p_law (spF K 1 F_law) := by
  have e := hfa.symm.trans (PySem.W.mg_of X G a_law)
  cases e
  have XI_NoStep : XIs K X_NoStep := ⟨⟨xs_NoStep, xg_NoStep, xh_NoStep, xo_NoStep, xd_NoStep⟩, xc_NoStep, xhn, xtk⟩
  have T : Txt K mg w.params := ⟨PySem.W.mg_none_of X G z_enumerate, PySem.W.mg_none_of X G z_int, PySem.W.mg_none_of X G z_isinstance, PySem.W.mg_none_of X G z_len, PySem.W.mg_none_of X G z_list, PySem.W.mg_none_of X G z_range, PySem.W.mg_none_of X G z_repr, PySem.W.mg_none_of X G z_set, PySem.W.mg_none_of X G z_sorted, PySem.W.mg_none_of X G z_tuple, ⟨⟨_, PySem.W.mg_of X G xa_NoBack, xe_NoBack, (xtp_cons xa_NoStep XI_NoStep xm_NoStep_NoBack xq_NoStep_NoBack xtp_nil)⟩⟩, ⟨⟨_, PySem.W.mg_of X G xa_NoRevision, xe_NoRevision, (xtp_cons xa_NoStep XI_NoStep xm_NoStep_NoRevision xq_NoStep_NoRevision xtp_nil)⟩⟩, ⟨⟨_, PySem.W.mg_of X G xa_NoStep, xe_NoStep, (xtp_cons xa_NoStep XI_NoStep xm_NoStep_NoStep xq_NoStep_NoStep xtp_nil)⟩⟩, ⟨⟨_, PySem.W.mg_of X G xa_PaperError, xe_PaperError, (xtp_cons xa_NoStep XI_NoStep xm_NoStep_PaperError xq_NoStep_PaperError xtp_nil)⟩⟩, ⟨⟨_, PySem.W.mg_of X G xa_RunError, xe_RunError, (xtp_cons xa_NoStep XI_NoStep xm_NoStep_RunError xq_NoStep_RunError xtp_nil)⟩⟩, ⟨⟨_, PySem.W.mg_of X G xa_TextError, xe_TextError, (xtp_cons xa_NoStep XI_NoStep xm_NoStep_TextError xq_NoStep_TextError xtp_nil)⟩⟩, (xkn_cons xa_NoStep XI_NoStep xkn_nil), (xfd_cons xa_NoStep XI_NoStep xn_NoStep_word xfd_nil), ⟨_, PySem.W.mg_of X G z_ONLY, sy_ONLY, _, _, y_ONLY, v_ONLY, x_ONLY⟩, ⟨_, PySem.W.mg_of X G z_WRITING, rv_mod y_WRITING (.str (.str (.str (.str (.str (.nil)))))) (Nat.le_of_ble_eq_true rfl)⟩⟩
  have F_suits := fun_mk (st := s_suits) l_suits c_suits k_suits
  have b_suits := F_suits.binds (ps := p_suits) fun _ _ _ _ _ _ us hl => match us, hl with | [_, _], _ => rfl
  have m_suits := PySem.W.mg_of X G a_suits
  have F_without_number := fun_mk (st := s_without_number) l_without_number c_without_number k_without_number
  have b_without_number := F_without_number.binds (ps := p_without_number) fun _ _ _ _ _ _ us hl => match us, hl with | [_, _], _ => rfl
  have m_without_number := PySem.W.mg_of X G a_without_number
  have F_with_number := fun_mk (st := s_with_number) l_with_number c_with_number k_with_number
  have b_with_number := F_with_number.binds (ps := p_with_number) fun _ _ _ _ _ _ us hl => match us, hl with | [_, _], _ => rfl
  have m_with_number := PySem.W.mg_of X G a_with_number
  have F_changed := fun_mk (st := s_changed) l_changed c_changed k_changed
  have m_changed := PySem.W.mg_of X G a_changed
  have F__law_feed := fun_mk (st := s__law_feed) l__law_feed c__law_feed k__law_feed
  have b__law_feed := F__law_feed.binds (ps := p__law_feed) fun _ _ _ _ _ _ us hl => match us, hl with | [_], _ => rfl
  have m__law_feed := PySem.W.mg_of X G a__law_feed
  have F__law_draw := fun_mk (st := s__law_draw) l__law_draw c__law_draw k__law_draw
  have b__law_draw := F__law_draw.binds (ps := p__law_draw) fun _ _ _ _ _ _ us hl => match us, hl with | [_, _], _ => rfl
  have m__law_draw := PySem.W.mg_of X G a__law_draw
  have F__law_number := fun_mk (st := s__law_number) l__law_number c__law_number k__law_number
  have b__law_number := F__law_number.binds (ps := p__law_number) fun _ _ _ _ _ _ us hl => match us, hl with | [_], _ => rfl
  have m__law_number := PySem.W.mg_of X G a__law_number
  have F__law_sum := fun_mk (st := s__law_sum) l__law_sum c__law_sum k__law_sum
  have b__law_sum := F__law_sum.binds (ps := p__law_sum) fun _ _ _ _ _ _ us hl => match us, hl with | [_, _, _], _ => rfl
  have m__law_sum := PySem.W.mg_of X G a__law_sum
  have F__law_has := fun_mk (st := s__law_has) l__law_has c__law_has k__law_has
  have b__law_has := F__law_has.binds (ps := p__law_has) fun _ _ _ _ _ _ us hl => match us, hl with | [_, _], _ => rfl
  have m__law_has := PySem.W.mg_of X G a__law_has
  have F__law_kind := fun_mk (st := s__law_kind) l__law_kind c__law_kind k__law_kind
  have b__law_kind := F__law_kind.binds (ps := p__law_kind) fun _ _ _ _ _ _ us hl => match us, hl with | [_], _ => rfl
  have m__law_kind := PySem.W.mg_of X G a__law_kind
  have F__law_due := fun_mk (st := s__law_due) l__law_due c__law_due k__law_due
  have b__law_due := F__law_due.binds (ps := p__law_due) fun _ _ _ _ _ _ us hl => match us, hl with | [_, _, _, _], _ => rfl
  have m__law_due := PySem.W.mg_of X G a__law_due
  have F__law_told := fun_mk (st := s__law_told) l__law_told c__law_told k__law_told
  have b__law_told := F__law_told.binds (ps := p__law_told) fun _ _ _ _ _ _ us hl => match us, hl with | [_, _, _, _], _ => rfl
  have m__law_told := PySem.W.mg_of X G a__law_told
  have F_law := fun_mk (st := s_law) l_law c_law k_law
  have kb_changed_word_number2 := kb_app (k := 2) (j := 2) (pm := [0, 1, 2, 3]) (ps := p_changed) (ks := ["word", "number"]) F_changed (by decide) fun _ _ _ _ _ _ us ws h1 h2 => match us, ws, h1, h2 with | [_, _], [_, _], _, _ => rfl
  have kb_changed_number_has_kind_word0 := kb_app (k := 0) (j := 4) (pm := [2, 1, 3, 0]) (ps := p_changed) (ks := ["number", "has", "kind", "word"]) F_changed (by decide) fun _ _ _ _ _ _ us ws h1 h2 => match us, ws, h1, h2 with | [], [_, _, _, _], _, _ => rfl
  have FI_NoStep := fun_mk (st := sI_NoStep) xl_NoStep xcd_NoStep xkf_NoStep
  have bI_NoStep := FI_NoStep.binds (ps := pI_NoStep) fun _ _ _ _ _ _ us hl => match us, hl with | [_, _], _ => rfl
  refine ⟨PySem.W.fnOf "law" "law" (defArgs s_law) (defBody s_law) (defScope s_law) .none kV_law dc_law pm_law an_law cd_law ct_law, fun s v => .of_eq rfl, fun base _ _ => ?_⟩
  have XR_NoStep : XR l.prog w K mg base "NoStep" ["word"] := ⟨⟨_, _, _, _, ⟨xe_NoStep, xi_NoStep, xfn_NoStep, xkc_NoStep⟩, okI_NoStep FI_NoStep, bI_NoStep, PySem.W.mg_of X G xa_NoStep, xa_NoStep, XI_NoStep.toXCls, (na_cons xn_NoStep_word na_nil)⟩⟩
  have G_suits := ok_suits (P := l.prog) (w := w) (base := base) T   F_suits
  have G_without_number := ok_without_number (P := l.prog) (w := w) (base := base) T   F_without_number
  have G_with_number := ok_with_number (P := l.prog) (w := w) (base := base) T G_without_number m_without_number k_without_number b_without_number  F_with_number
  have GX_changed := okx_changed (P := l.prog) (w := w) (base := base) T G_without_number m_without_number k_without_number b_without_number G_with_number m_with_number k_with_number b_with_number G_suits m_suits k_suits b_suits XR_NoStep F_changed
  have G_changed := ok_changed (P := l.prog) (w := w) (base := base) T G_without_number m_without_number k_without_number b_without_number G_with_number m_with_number k_with_number b_with_number G_suits m_suits k_suits b_suits F_changed
  have G__law_feed := ok__law_feed (P := l.prog) (w := w) (base := base) T   F__law_feed
  have G__law_draw := ok__law_draw (P := l.prog) (w := w) (base := base) T   F__law_draw
  have G__law_number := ok__law_number (P := l.prog) (w := w) (base := base) T G__law_draw m__law_draw k__law_draw b__law_draw  F__law_number
  have G__law_sum := ok__law_sum (P := l.prog) (w := w) (base := base) T G__law_draw m__law_draw k__law_draw b__law_draw  F__law_sum m__law_sum k__law_sum b__law_sum 12
  have G__law_has := ok__law_has (P := l.prog) (w := w) (base := base) T G__law_draw m__law_draw k__law_draw b__law_draw G__law_number m__law_number k__law_number b__law_number  F__law_has
  have G__law_kind := ok__law_kind (P := l.prog) (w := w) (base := base) T G__law_draw m__law_draw k__law_draw b__law_draw G__law_sum m__law_sum k__law_sum b__law_sum  F__law_kind
  have G__law_due := ok__law_due (P := l.prog) (w := w) (base := base) T   F__law_due
  have G__law_told := ok__law_told (P := l.prog) (w := w) (base := base) T G_changed m_changed k_changed kb_changed_word_number2 GX_changed F__law_told
  exact ok_law T G__law_number m__law_number k__law_number b__law_number G_changed m_changed k_changed G__law_told m__law_told k__law_told b__law_told G__law_due m__law_due k__law_due b__law_due G__law_draw m__law_draw k__law_draw b__law_draw G__law_has m__law_has k__law_has b__law_has G__law_kind m__law_kind k__law_kind b__law_kind G__law_feed m__law_feed k__law_feed b__law_feed kb_changed_number_has_kind_word0  F_law
theorem walk {l : PySem.W.OpenLaw} {q : Program} {loose : List Str} {XP : (Str → Option Value) → Heap → Prop} {YP : World → Heap → Prop} {d : DefRec} {K : Params → PySem.W.Frag} (math : ∀ ns : List Int, ns.length ≤ 63 → ∃ m', F_law [.fls (ns.map D.int)] [] = some (.bl true, m')) (hn : l.most = some 63) (hdf : d.params.defaults = [])
    (hY : ∀ (w : World) (h : Heap), YP w h → (K w.params).In h)
    (F : ∀ (w : World) (mg : Str → Option Value) (fa : Addr) (h : Heap), (K w.params).In h → h.Ns mainGlobals mg → mg d.name = some (.ref fa) →
      ∃ fd : FuncData, (∀ (s : Shared) (u : Value), BindsTo s fd ⟨[u], []⟩ [("_law_script", u)]) ∧ ∀ base : Heap, (K w.params).In base → base.Ns mainGlobals mg → FnOk l.prog w (K w.params) mg base CX0 16 fa fd p_law (spF (K w.params) 1 F_law)) :
    PySem.W.WalkO q loose XP YP l.row.toRowW d [] (fun f vs => PySem.call f vs) :=
  L2.walk_of (n := 63) (k := 16) (x := "_law_script") (CX := fun _ => CX0) (sp := fun w => spF (K w.params) 1 F_law) hn (by decide) hdf ⟨rfl, by decide, by decide, rfl⟩ hY F (fun w H a ns hl hO hS => sp_law math H a ns hl hO hS) fun _ _ _ _ _ z => z
end Law

set_option Elab.async false
set_option linter.all false
set_option maxRecDepth 100000
set_option maxHeartbeats 40000000
set_option exponentiation.threshold 3000
local macro_rules | `(tactic| walk_at "wp") => `(tactic| first
  | with_reducible refine L3.w_sSeq ?_ | with_reducible refine L3.w_sIf ?_ | with_reducible refine L3.w_sRet ?_ | with_reducible refine L3.w_sNext ?_ | with_reducible refine L3.w_sAsg ?_ | with_reducible refine L3.w_sPut ?_ | with_reducible refine L3.w_sDrop ?_ | with_reducible refine L3.w_sPar ?_ | with_reducible refine L3.w_sPar3 ?_
  | with_reducible refine L3.w_ret ?_ | with_reducible refine L3.w_ifS ?_ | with_reducible refine L3.w_asg ?_ | with_reducible refine L3.w_put ?_ | with_reducible refine L3.w_drop ?_ | with_reducible refine L3.w_next ?_
  | with_reducible refine L3.w_c2 ?_ | with_reducible refine L3.w_call ?_ | with_reducible refine L3.w_cons ?_ | with_reducible refine L3.w_nil ?_ | with_reducible refine L3.w_c ?_ | refine L3.w_var rfl ?_
  | with_reducible refine L3.w_tup ?_ | with_reducible refine L3.w_lst ?_ | with_reducible refine L3.w_if ?_ | with_reducible refine L3.w_neg ?_ | with_reducible refine L3.w_andV ?_ | with_reducible refine L3.w_orV ?_ | with_reducible refine L3.w_notV ?_
  | with_reducible refine L3.w_B ?_ | with_reducible refine L3.w_tru ?_ | with_reducible refine L3.w_notT ?_ | with_reducible refine L3.w_andT ?_ | with_reducible refine L3.w_orT ?_ | with_reducible refine L3.w_ch ?_ | with_reducible refine L3.w_isi ?_
  | with_reducible refine L3.w_noPart ?_ | with_reducible refine L3.w_part ?_ | with_reducible refine L3.w_sl ?_ | with_reducible refine L3.w_revT ?_ | with_reducible refine L3.w_mt ?_ | with_reducible refine L3.w_dict ?_ | with_reducible refine L3.w_pnil ?_ | with_reducible refine L3.w_pcons ?_ | with_reducible refine L3.w_join ?_ | with_reducible refine L3.w_callK ?_ | with_reducible refine L3.w_callK0 ?_ | with_reducible refine L3.w_get2 ?_ | with_reducible refine L3.w_star ?_ | with_reducible refine L3.w_revL ?_
  | refine L3.w_addI ?_ | refine L3.w_sub ?_ | refine L3.w_lt ?_ | refine L3.w_le ?_ | refine L3.w_gt ?_ | refine L3.w_ge ?_ | refine L3.w_eqI ?_ | refine L3.w_neI ?_ | refine L3.w_eqS ?_ | refine L3.w_neS ?_
  | refine L3.w_isN ?_ | refine L3.w_intB ?_ | refine L3.w_slT ?_ | refine L3.w_lenT ?_ | refine L3.w_listT ?_)
namespace Law
open PySem L2 L3
/-! ### the feed -/
def fd (c : Nat) (a l k : Int) : List (Key × D) := [(.inr "cells", .ref c), (.inr "at", .int a), (.inr "left", .int l), (.inr "count", .int k)]
theorem v_cells {c : Nat} {a l k : Int} : valD (fd c a l k) (.inr "cells") = some (.ref c) := by kernel_rfl
theorem v_at {c : Nat} {a l k : Int} : valD (fd c a l k) (.inr "at") = some (.int a) := by kernel_rfl
theorem v_left {c : Nat} {a l k : Int} : valD (fd c a l k) (.inr "left") = some (.int l) := by kernel_rfl
theorem v_count {c : Nat} {a l k : Int} : valD (fd c a l k) (.inr "count") = some (.int k) := by kernel_rfl
theorem p_at {c : Nat} {a l k : Int} {i : Int} : putD (fd c a l k) (.inr "at") (.int i) = fd c i l k := by kernel_rfl
theorem p_left {c : Nat} {a l k : Int} {i : Int} : putD (fd c a l k) (.inr "left") (.int i) = fd c a i k := by kernel_rfl
theorem p_count {c : Nat} {a l k : Int} {i : Int} : putD (fd c a l k) (.inr "count") (.int i) = fd c a l i := by kernel_rfl
theorem p_all {c : Nat} : ([(.inr "cells", .ref c), (.inr "at", .int 0), (.inr "left", .int 0), (.inr "count", .int 0)] : List (Key × D)).foldl (fun acc kv => putD acc kv.1 kv.2) [] = fd c 0 0 0 := by kernel_rfl
structure FeedX (g0 : Nat → Option MO) (S : List Nat) (m : M) (f c : Nat) (cells : List Int) (a l k : Int) : Prop where
  hf : m[f]? = some (.dic (fd c a l k))
  hc : m[c]? = some (.lst (cells.map D.int))
  nS : c ∉ S
  fS : f ∈ S
  lt : ∀ i ∈ S, i < m.length
  pr : ∀ i ∈ S, i ≠ f → m[i]? = g0 i
theorem FeedX.set {g0 : Nat → Option MO} {S : List Nat} {m : M} {f c : Nat} {cells : List Int} {a l k a' l' k' : Int} (h : FeedX g0 S m f c cells a l k) : FeedX g0 S (m.set f (.dic (fd c a' l' k'))) f c cells a' l' k' :=
  ⟨List.getElem?_set_self (h.lt f h.fS), by rw [List.getElem?_set_ne (fun z : f = c => h.nS (z ▸ h.fS))]; exact h.hc, h.nS, h.fS, (fun i hi => by rw [List.length_set]; exact h.lt i hi), fun i hi hn => by rw [List.getElem?_set_ne (Ne.symm hn)]; exact h.pr i hi hn⟩
theorem FeedX.push {g0 : Nat → Option MO} {S : List Nat} {m : M} {f c : Nat} {cells : List Int} {a l k : Int} (h : FeedX g0 S m f c cells a l k) (o : MO) : FeedX g0 S (m ++ [o]) f c cells a l k :=
  ⟨by rw [List.getElem?_append_left (List.getElem?_eq_some_iff.mp h.hf).1]; exact h.hf, by rw [List.getElem?_append_left (List.getElem?_eq_some_iff.mp h.hc).1]; exact h.hc, h.nS, h.fS, (fun i hi => by rw [List.length_append]; exact Nat.lt_of_lt_of_le (h.lt i hi) (Nat.le_add_right _ _)), fun i hi hn => by rw [List.getElem?_append_left (h.lt i hi)]; exact h.pr i hi hn⟩
/-- a feed stands at f -/
def Feed (g0 : Nat → Option MO) (S : List Nat) (m : M) (f : Nat) : Prop := ∃ c cells a l k, FeedX g0 S m f c cells a l k ∧ 0 ≤ a ∧ 0 ≤ l
theorem py_ints {m : M} : ∀ ns : List Int, pys (py 49 m) (ns.map D.int) = some (ns.map PyData.int)
  | [] => rfl
  | n :: ns => by rw [List.map_cons, List.map_cons]; unfold pys; rw [py_ints ns]; rfl
theorem shaped_ints (ns : List Int) : SeqAt.shaped (.list (ns.map PyData.int)) = true := by
  have h1 : PyData.canLayAll0 (ns.map PyData.int) = true := by
    induction ns with
    | nil => rfl
    | cons n ns ih => rw [List.map_cons]; unfold PyData.canLayAll0; rw [ih]; rfl
  have h2 : PyData.depthAll (ns.map PyData.int) = 0 := by
    clear h1
    induction ns with
    | nil => rfl
    | cons n ns ih => rw [List.map_cons]; unfold PyData.depthAll; rw [ih]; rfl
  unfold SeqAt.shaped PyData.canLay0 PyData.depth
  rw [h1, h2]; rfl
theorem ne_nil {m : M} {c e : Nat} {ns : List Int} {P : D → M → Prop} (h1 : m[c]? = some (.lst (ns.map D.int))) (h2 : m[e]? = some (.lst [])) (h : P (.bl (!ns.isEmpty)) m) : W (fNe (.ref c) (.ref e) m) P := by
  refine ⟨_, _, ?_, h⟩
  show fNeD (.ref c) (.ref e) m = _
  have e1 : py PYN m (.ref c) = some (.list (ns.map PyData.int)) := by
    show py 50 m (.ref c) = _
    unfold py
    simp only [h1, py_ints, Option.map_some]
  have e2 : py PYN m (.ref e) = some (.list []) := by
    show py 50 m (.ref e) = _
    unfold py
    simp only [h2]
    rfl
  unfold fNeD
  rw [e1, e2]
  simp only [shaped_ints, show SeqAt.shaped (.list []) = true by decide +kernel, Bool.and_self, if_true]
  cases ns <;> rfl
theorem atI_ints {ns : List Int} {i : Int} (h0 : 0 ≤ i) (h : i < ns.length) : ∃ v, atI (ns.map D.int) i = some (.int v) := by
  have hl : i.toNat < ns.length := by omega
  refine ⟨ns[i.toNat], ?_⟩
  have := atI_nat (xs := ns.map D.int) (j := i.toNat) (v := .int ns[i.toNat]) (by rw [List.getElem?_map, List.getElem?_eq_getElem hl]; rfl)
  rw [show ((i.toNat : Nat) : Int) = i by omega] at this
  exact this
theorem dic_at {m : M} {f : Nat} {kvs : List (Key × D)} (h : m[f]? = some (.dic kvs)) : dicD (.ref f) m = some (f, kvs) := by unfold dicD; simp only [h]
theorem four {c : Nat} {a l k : Int} : (fd c a l k).length < sizeLine := by show 4 < sizeLine; decide
theorem draw_spec {S : List Nat} {m : M} {f : Nat} {n : Int} {P : D → M → Prop} (hF : Feed g0 S m f) (h0 : 0 < n) (hn : n < 1073741824) (k : ∀ (r : Int) (m' : M), 0 ≤ r → r < n → Feed g0 S m' f → Kp S m m' → P (.int r) m') : W (F__law_draw [.ref f, .int n] m) P := by
  obtain ⟨c, cells, a, l, q, hX, ha, hl⟩ := hF
  unfold F__law_draw
  refine w_run ?_
  unfold c__law_draw
  repeat walk_at "wp"
  refine w_getD hX.hf rfl v_count ?_
  repeat walk_at "wp"
  refine ⟨f, fd c a l q, .inr "count", dic_at hX.hf, rfl, four, ?_⟩
  rw [p_count]
  have X1 := hX.set (a' := a) (l' := l) (k' := q + 1)
  have K1 : Kp S m (m.set f (.dic (fd c a l (q + 1)))) := .set _ hX.fS
  generalize m.set f (.dic (fd c a l (q + 1))) = m1 at X1 K1
  repeat walk_at "wp"
  refine w_getD X1.hf rfl v_left ?_
  repeat walk_at "wp"
  refine ⟨_, rfl, fun e => ?_, fun e => ?_⟩
  · have e : 0 < l := of_decide_eq_true e
    repeat walk_at "wp"
    refine w_getD X1.hf rfl v_left ?_
    repeat walk_at "wp"
    refine w_mod h0 ?_
    repeat walk_at "wp"
    refine w_getD X1.hf rfl v_left ?_
    repeat walk_at "wp"
    refine w_div ⟨h0, hn⟩ ?_
    repeat walk_at "wp"
    refine ⟨f, _, .inr "left", dic_at X1.hf, rfl, four, ?_⟩
    rw [p_left]
    repeat walk_at "wp"
    refine ⟨_, rfl, k _ _ (Int.emod_nonneg _ (by omega)) (Int.emod_lt_of_pos _ h0) ⟨c, cells, a, l / n, q + 1, X1.set, ha, Int.ediv_nonneg hl (by omega)⟩ (K1.trans (.set _ hX.fS))⟩
  · repeat walk_at "wp"
    refine w_getD X1.hf rfl v_at ?_
    repeat walk_at "wp"
    refine ⟨f, _, .inr "at", dic_at X1.hf, rfl, four, ?_⟩
    rw [p_at]
    have X2 := X1.set (a' := a + 1) (l' := l) (k' := q + 1)
    have K2 := K1.trans (.set (.dic (fd c (a + 1) l (q + 1))) hX.fS)
    generalize m1.set f (.dic (fd c (a + 1) l (q + 1))) = m2 at X2 K2
    walk_at "wp"
    refine W.mono (P := fun d m4 => ∃ cell, d = .int cell ∧ FeedX g0 S m4 f c cells (a + 1) l (q + 1) ∧ Kp S m m4) ?_ ?_
    · repeat walk_at "wp"
      refine w_getD X2.hf rfl v_cells ?_
      repeat walk_at "wp"
      refine ⟨by decide, ?_⟩
      have X3 := X2.push (.lst [])
      have K3 := K2.trans (.push (.lst []))
      have e3 : (m2 ++ [MO.lst []])[m2.length]? = some (.lst []) := by simp
      generalize m2 ++ [MO.lst []] = m3 at X3 K3 e3
      refine ne_nil X3.hc e3 ⟨_, rfl, fun e4 => ?_, fun e4 => ?_⟩
      · repeat walk_at "wp"
        refine w_getD X3.hf rfl v_cells ?_
        repeat walk_at "wp"
        refine w_getD X3.hf rfl v_cells ?_
        repeat walk_at "wp"
        refine w_lenL X3.hc ?_
        have hne : 0 < cells.length := by
          cases cells with
          | nil => cases e4
          | cons _ _ => simp
        rw [List.length_map]
        refine w_mod (by omega) ?_
        obtain ⟨v, hv⟩ := atI_ints (ns := cells) (i := a % (cells.length : Int)) (Int.emod_nonneg _ (by omega)) (Int.emod_lt_of_pos _ (by omega))
        exact w_ixL X3.hc hv ⟨v, rfl, X3, K3⟩
      · repeat walk_at "wp"
        exact ⟨11, rfl, X3, K3⟩
    rintro _ m4 ⟨cell, rfl, X4, K4⟩
    walk_at "wp"
    refine W.mono (P := fun t m5 => m4 = m5 ∧ (t = true → 0 ≤ cell)) ?_ ?_
    · repeat walk_at "wp"
      refine w_pow (by decide) ?_
      repeat walk_at "wp"
      refine ⟨_, rfl, fun e1 => ?_, fun e1 => ⟨rfl, fun z => nomatch z⟩⟩
      have e1 : (10 : Int) ^ (18 : Int).toNat ≤ cell := of_decide_eq_true e1
      have e1' : (0 : Int) ≤ cell := Int.le_trans (by decide) e1
      repeat walk_at "wp"
      refine w_getD X4.hf rfl v_cells ?_
      repeat walk_at "wp"
      refine w_lenL X4.hc ?_
      repeat walk_at "wp"
      exact ⟨_, rfl, rfl, fun _ => e1'⟩
    rintro t _ ⟨rfl, ht⟩
    refine ⟨fun e => ?_, fun e => ?_⟩
    · repeat walk_at "wp"
      refine w_div ⟨h0, hn⟩ ?_
      repeat walk_at "wp"
      refine ⟨f, _, .inr "left", dic_at X4.hf, rfl, four, ?_⟩
      rw [p_left]
      repeat walk_at "wp"
      refine w_mod h0 ?_
      exact ⟨_, rfl, k _ _ (Int.emod_nonneg _ (by omega)) (Int.emod_lt_of_pos _ h0) ⟨c, cells, a + 1, cell / n, q + 1, X4.set, by omega, Int.ediv_nonneg (ht e) (by omega)⟩ (K4.trans (.set _ hX.fS))⟩
    · walk_at "wp"
      walk_at "wp"
      refine W.mono (P := fun d m5 => m4 = m5 ∧ ∃ x, d = .int x ∧ 0 ≤ x ∧ x < 2147483579) ?_ ?_
      · repeat walk_at "wp"
        refine w_mod (by decide) ?_
        repeat walk_at "wp"
        refine w_getD X4.hf rfl v_count ?_
        refine w_mul (.inl (by decide)) ?_
        repeat walk_at "wp"
        refine w_mod (by decide) ?_
        exact ⟨rfl, _, rfl, Int.emod_nonneg _ (by decide), Int.emod_lt_of_pos _ (by decide)⟩
      rintro _ _ ⟨rfl, x, rfl, x1, x2⟩
      walk_at "wp"
      refine W.mono (P := fun d m5 => m4 = m5 ∧ ∃ x, d = .int x ∧ 0 ≤ x ∧ x < 2147483549) ?_ ?_
      · repeat walk_at "wp"
        refine w_mul (.inl (by constructor <;> omega)) ?_
        repeat walk_at "wp"
        refine w_getD X4.hf rfl v_count ?_
        refine w_mul (.inl (by decide)) ?_
        repeat walk_at "wp"
        refine w_mod (by decide) ?_
        exact ⟨rfl, _, rfl, Int.emod_nonneg _ (by decide), Int.emod_lt_of_pos _ (by decide)⟩
      rintro _ _ ⟨rfl, y, rfl, y1, y2⟩
      repeat walk_at "wp"
      refine w_mul (.inl (by constructor <;> omega)) ?_
      repeat walk_at "wp"
      refine w_mul (.inl (by decide)) ?_
      repeat walk_at "wp"
      refine w_mod (by decide) ?_
      repeat walk_at "wp"
      refine w_div (by decide) ?_
      repeat walk_at "wp"
      refine w_mod h0 ?_
      exact ⟨_, rfl, k _ _ (Int.emod_nonneg _ (by omega)) (Int.emod_lt_of_pos _ h0) ⟨c, cells, _, l, q + 1, X4, by omega, hl⟩ K4⟩
theorem cut_ints (ns : List Int) (lo hi : Option Int) : ∃ cs : List Int, cutD (ns.map D.int) lo hi = cs.map D.int := by
  unfold cutD
  exact ⟨_, by rw [← List.map_drop, ← List.map_take]⟩
theorem feed_spec {ns : List Int} {P : D → M → Prop} (k : ∀ f m', Feed g0 [f] m' f → P (.ref f) m') : W (F__law_feed [.fls (ns.map D.int)] []) P := by
  unfold F__law_feed
  refine w_run ?_
  unfold c__law_feed
  repeat walk_at "wp"
  refine ⟨63, rfl, w_slF ?_⟩
  repeat walk_at "wp"
  obtain ⟨cs, hcs⟩ := cut_ints ns none (some 63)
  rw [hcs]
  refine ⟨_, rfl, _, rfl, _, rfl, _, rfl, _, rfl, ?_⟩
  refine k _ _ ⟨1, cs, 0, 0, 0, ⟨?_, ?_, by simp, by simp, by simp, fun i hi hn => absurd (List.mem_singleton.mp hi) hn⟩, Int.le_refl _, Int.le_refl _⟩
  · rw [List.getElem?_append_right (Nat.le_refl _), Nat.sub_self]
    exact congrArg some (congrArg MO.dic p_all)
  · rfl
end Law

set_option Elab.async false
set_option linter.all false
set_option maxRecDepth 100000
set_option maxHeartbeats 40000000
set_option exponentiation.threshold 3000
namespace L3
open PySem L2
section
variable {ρ : En} {m : M} {P : D → M → Prop}
theorem w_lcE {cs : CA} {g : D → En → Option En} {tt : CT} {ce : CE} {vs : List Nat} (h : W (cs ρ m) fun ds m1 => ∃ n es, ds = [.ref n] ∧ m1[n]? = some (.lst es) ∧ es.length ≤ sizeLine ∧ W (lcL (some n) m1 g tt ce (wipeE ρ vs) (es.zipIdx.map fun p => D.tup [.int (p.2 : Int), p.1]) m1) fun out m2 => P (.ref m2.length) (m2 ++ [.lst out])) : W (cLc (iEnumD cs) g tt ce vs ρ m) P := by
  obtain ⟨d, m1, e, n, es, rfl, hn, hx, h⟩ := h
  unfold cLc
  refine W.bindO (show iEnumD cs ρ m = some (es.zipIdx.map (fun p => D.tup [.int (p.2 : Int), p.1]), some n, m1) by unfold iEnumD; rw [e]; simp only [hn]) ?_
  show W (if (es.zipIdx.map fun p => D.tup [.int (p.2 : Int), p.1]).length ≤ sizeLine then _ else _) P
  rw [if_pos (by simpa using hx)]
  exact W.bind (h.mono fun _ _ h => W.some h)
theorem intsD_map (ns : List Int) : intsD (ns.map D.int) = some ns := by
  induction ns with
  | nil => rfl
  | cons a ns ih => rw [List.map_cons]; unfold intsD; rw [ih]; rfl
theorem w_ss {c : CE} (h : W (c ρ m) fun d m1 => ∃ ns : List Int, itemsD d m1 = some (ns.map D.int) ∧ ns.length + 1 < scanBound ∧ (dedZ ns).length < 64 ∧ P (.ref m1.length) (m1 ++ [.lst ((srt (dedZ ns)).map D.int)])) : W (cSS c ρ m) P :=
  W.bind (h.mono fun d m1 ⟨ns, e, h1, h2, h⟩ => W.bindO e (W.bindO (intsD_map ns) (by rw [if_pos ⟨h1, h2⟩]; exact W.some h)))
theorem w_sortL {n : Nat} {ns : List Int} (e : m[n]? = some (.lst (ns.map D.int))) (hz : ns.length < 64) (h : P (.ref m.length) (m ++ [.lst ((srt ns).map D.int)])) : W (f1 sortedD [.ref n] m) P := ⟨_, _, by
  unfold f1 sortedD lstD; simp only [e, intsD_map, Option.bind_some, if_pos hz], h⟩
end
/-! ### without twice, sorted -/
theorem mem_step (σ : List Int) (k j : Int) : j ∈ PyProof.Rows.step_dedup σ k ↔ j ∈ σ ∨ j = k := by
  unfold PyProof.Rows.step_dedup
  split
  · rename_i h
    obtain ⟨x, hx, e⟩ := List.any_eq_true.mp h
    have e : x = k := by simpa using e
    constructor
    · exact .inl
    · rintro (h | rfl)
      · exact h
      · exact e ▸ hx
  · rw [List.mem_append, List.mem_singleton]
theorem mem_foldl_step : ∀ (ns σ : List Int) (j : Int), j ∈ ns.foldl PyProof.Rows.step_dedup σ ↔ j ∈ σ ∨ j ∈ ns
  | [], σ, j => by simp
  | n :: ns, σ, j => by
    rw [List.foldl_cons, mem_foldl_step ns, mem_step, List.mem_cons]
    constructor
    · rintro ((h | h) | h)
      · exact .inl h
      · exact .inr (.inl h)
      · exact .inr (.inr h)
    · rintro (h | h | h)
      · exact .inl (.inl h)
      · exact .inl (.inr h)
      · exact .inr h
theorem mem_ded (ns : List Int) (j : Int) : j ∈ dedZ ns ↔ j ∈ ns := by
  unfold dedZ
  rw [mem_foldl_step]; simp
theorem srt_lt {l : List Int} (h : l.Nodup) : (srt l).Pairwise (· < ·) := by
  have h1 := srt_sorted l
  have h2 : (srt l).Nodup := (srt_perm l).nodup_iff.mpr h
  rw [List.Nodup] at h2
  refine (List.pairwise_and_iff.mpr ⟨h1, h2⟩).imp ?_
  rintro a b ⟨h1, h2⟩
  omega
theorem srt_mem (l : List Int) (j : Int) : j ∈ srt l ↔ j ∈ l := (srt_perm l).mem_iff
/-- sorted without twice, told by what is in it -/
theorem eq_of_mem : ∀ {xs ys : List Int}, xs.Pairwise (· < ·) → ys.Pairwise (· < ·) → (∀ j, j ∈ xs ↔ j ∈ ys) → xs = ys := by
  intro xs ys h1 h2 h
  have n1 : xs.Nodup := h1.imp fun h => by omega
  have n2 : ys.Nodup := h2.imp fun h => by omega
  have p : xs.Perm ys := (List.perm_ext_iff_of_nodup n1 n2).mpr h
  exact eq_of_sorted p (h1.imp fun h => by omega) (h2.imp fun h => by omega)
theorem len_sub : ∀ {xs ys : List Int}, xs.Nodup → (∀ k, k ∈ xs → k ∈ ys) → xs.length ≤ ys.length
  | [], _, _, _ => Nat.zero_le _
  | x :: xs, ys, hn, h => by
    rw [List.nodup_cons] at hn
    have hx := h x (by simp)
    have ih := len_sub (xs := xs) (ys := ys.erase x) hn.2 fun k hk => (List.mem_erase_of_ne (fun z : k = x => hn.1 (z ▸ hk))).mpr (h k (List.mem_cons_of_mem _ hk))
    rw [List.length_erase_of_mem hx] at ih
    have : 0 < ys.length := List.length_pos_of_mem hx
    rw [List.length_cons]; omega
/-- at most twelve from -1 to 10 -/
theorem few_of {xs : List Int} (h1 : xs.Nodup) (h2 : ∀ n ∈ xs, -1 ≤ n ∧ n ≤ 10) : xs.length ≤ 12 := by
  have : xs.Subset ((List.range 12).map fun (i : Nat) => (i : Int) - 1) := fun n hn => by
    obtain ⟨a, b⟩ := h2 n hn
    exact List.mem_map.mpr ⟨(n + 1).toNat, List.mem_range.mpr (by omega), by omega⟩
  have := len_sub h1 fun k hk => this hk
  simpa using this
end L3

set_option Elab.async false
set_option linter.all false
set_option maxRecDepth 100000
set_option maxHeartbeats 40000000
set_option exponentiation.threshold 3000
namespace Law
open PySem L2 L3
/-! ### sums as trees -/
inductive Op where
  | plus | minus | less
def Op.w : Op → Str
  | .plus => "plus"
  | .minus => "minus"
  | .less => "less"
inductive E where
  | num (i : Int) | slot (x : Str) | bin (o : Op) (a b : E)
def E.d : E → D
  | .num i => .tup [.str "num", .int i]
  | .slot x => .tup [.str "slot", .str x]
  | .bin o a b => .tup [.str o.w, a.d, b.d]
def E.dep : E → Nat
  | .num _ => 1
  | .slot _ => 1
  | .bin _ a b => max a.dep b.dep + 1
def Op.ap : Op → Int → Int → Int
  | .plus, x, y => x + y
  | .minus, x, y => x - y
  | .less, x, y => if x < y then 1 else 0
def E.val (G : Str → Int) : E → Int
  | .num i => i
  | .slot x => G x
  | .bin o a b => o.ap (a.val G) (b.val G)
def E.less : E → Bool
  | .num _ => false
  | .slot _ => false
  | .bin .less _ _ => true
  | .bin _ a b => a.less || b.less
theorem ifT {p : Prop} [Decidable p] {A B : Prop} (hp : p) (h : A) : ∃ b, D.bl (decide p) = .bl b ∧ (b = true → A) ∧ (b = false → B) := ⟨_, rfl, fun _ => h, fun e => absurd hp (of_decide_eq_false e)⟩
theorem ifF {p : Prop} [Decidable p] {A B : Prop} (hp : ¬ p) (h : B) : ∃ b, D.bl (decide p) = .bl b ∧ (b = true → A) ∧ (b = false → B) := ⟨_, rfl, fun e => absurd (of_decide_eq_true e) hp, fun _ => h⟩
theorem ne_sn : ¬ (("slot" : Str) = "num") := by decide +kernel
theorem Op.nn (o : Op) : ¬ (o.w = "num") := by cases o <;> decide +kernel
theorem Op.ns (o : Op) : ¬ (o.w = "slot") := by cases o <;> decide +kernel
/-! ### worth_by -/
/-! ### numbers_of -/
/-! ### what a sum reads as -/
def E.p : E → PyData
  | .num i => .tuple [.str "num", .int i]
  | .slot x => .tuple [.str "slot", .str x]
  | .bin o a b => .tuple [.str o.w, a.p, b.p]
theorem E.rp {S : List Nat} {m : M} : ∀ e : E, Rp S m e.d e.p
  | .num i => .tup (.cons (.str _) (.cons (.int i) .nil))
  | .slot x => .tup (.cons (.str _) (.cons (.str x) .nil))
  | .bin o a b => .tup (.cons (.str _) (.cons a.rp (.cons b.rp .nil)))
def E.ok : E → Prop
  | .num i => i.natAbs ≤ 10 ^ 6
  | .slot x => x.length ≤ 6 ∧ PyData.strOk x = true
  | .bin _ a b => a.ok ∧ b.ok
theorem Op.tx (o : Op) : PyData.strOk o.w = true ∧ o.w.length ≤ 5 := by cases o <;> exact ⟨by decide +kernel, by decide +kernel⟩
theorem E.gd : ∀ e : E, e.ok → L3.gd (10 ^ 7) e.p = true
  | .num i, h => by
    have h : i.natAbs ≤ 10 ^ 6 := h
    show (L3.gd _ (.str "num") && (L3.gd _ (.int i) && true)) = true
    rw [show L3.gd (10 ^ 7) (.str "num") = true by decide +kernel, show L3.gd (10 ^ 7) (.int i) = true from decide_eq_true (by omega)]; rfl
  | .slot x, h => by
    have h : x.length ≤ 6 ∧ PyData.strOk x = true := h
    show (L3.gd _ (.str "slot") && (L3.gd _ (.str x) && true)) = true
    rw [show L3.gd (10 ^ 7) (.str "slot") = true by decide +kernel, show L3.gd (10 ^ 7) (.str x) = true by unfold L3.gd; rw [h.2, decide_eq_true (show x.length ≤ 300 by omega)]; rfl]; rfl
  | .bin o a b, h => by
    have h : a.ok ∧ b.ok := h
    show (L3.gd _ (.str o.w) && (L3.gd _ a.p && (L3.gd _ b.p && true))) = true
    rw [E.gd a h.1, E.gd b h.2, show L3.gd (10 ^ 7) (.str o.w) = true by unfold L3.gd; rw [o.tx.1, decide_eq_true (show o.w.length ≤ 300 by have := o.tx.2; omega)]; rfl]; rfl
theorem E.depth : ∀ e : E, e.p.depth ≤ e.dep
  | .num i => Nat.le_refl _
  | .slot x => Nat.le_refl _
  | .bin o a b => by
    have h1 := E.depth a
    have h2 := E.depth b
    show max 0 (max a.p.depth (max b.p.depth 0)) + 1 ≤ max a.dep b.dep + 1
    omega
theorem E.lw : ∀ e : E, e.ok → L3.lw e.p + 100 ≤ 400 * 2 ^ e.dep
  | .num i, h => by show (10 * 3 + 2) + 2 + (251 + 2 + 0) + 3 + 100 ≤ 800; decide
  | .slot x, h => by
    have h : x.length ≤ 6 ∧ PyData.strOk x = true := h
    show (10 * 4 + 2) + 2 + ((10 * x.length + 2) + 2 + 0) + 3 + 100 ≤ 800
    omega
  | .bin o a b, h => by
    have h : a.ok ∧ b.ok := h
    have h1 := E.lw a h.1
    have h2 := E.lw b h.2
    have h3 := o.tx.2
    have e1 : 2 ^ a.dep ≤ 2 ^ max a.dep b.dep := Nat.pow_le_pow_right (by decide) (by omega)
    have e2 : 2 ^ b.dep ≤ 2 ^ max a.dep b.dep := Nat.pow_le_pow_right (by decide) (by omega)
    show (10 * o.w.length + 2) + 2 + (L3.lw a.p + 2 + (L3.lw b.p + 2 + 0)) + 3 + 100 ≤ 400 * 2 ^ (max a.dep b.dep + 1)
    rw [Nat.pow_succ]
    omega
theorem E.gb {e : E} (h : e.ok) (hd : e.dep ≤ 5) : Gb (10 ^ 7) e.p 5 12700 := ⟨e.gd h, Nat.le_trans e.depth hd, by
  have := e.lw h
  have : 2 ^ e.dep ≤ 2 ^ 5 := Nat.pow_le_pow_right (by decide) hd
  omega⟩
def E.size : E → Nat
  | .num _ => 1
  | .slot _ => 1
  | .bin _ a b => a.size + b.size + 1
def sizes (es : List E) : Nat := (es.map E.size).sum
/-! ### has_less -/
/-! ### the law's own worth -/
theorem le_sz {n : Nat} (h : Nat.ble n 1000 = true := by rfl) : n ≤ sizeLine := Nat.le_trans (Nat.le_of_ble_eq_true h) (by decide)
theorem Feed.push {g0 : Nat → Option MO} {S : List Nat} {m : M} {f : Nat} (h : Feed g0 S m f) (o : MO) : Feed g0 S (m ++ [o]) f := by
  obtain ⟨c, cells, a, l, q, hX, ha, hl⟩ := h
  exact ⟨c, cells, a, l, q, hX.push _, ha, hl⟩
theorem Feed.fresh {g0 : Nat → Option MO} {S : List Nat} {m : M} {f : Nat} (h : Feed g0 S m f) : m.length ∉ S := fun z => by
  obtain ⟨c, cells, a, l, q, hX, ha, hl⟩ := h
  exact Nat.lt_irrefl _ (hX.lt _ z)
theorem number_spec {g0 : Nat → Option MO} {S : List Nat} {m : M} {f : Nat} {P : D → M → Prop} (hF : Feed g0 S m f) (k : ∀ (i : Int) m', i.natAbs < 10 ^ 60 → Feed g0 S m' f → Kp S m m' → P (.int i) m') : W (F__law_number [.ref f] m) P := by
  refine w_run ?_
  unfold c__law_number
  repeat walk_at "wp"
  refine draw_spec hF (by decide) (by decide) fun few m1 f0 f1 F1 K1 => ?_
  repeat walk_at "wp"
  refine draw_spec F1 (by decide) (by decide) fun sm m2 s0 s1 F2 K2 => ?_
  repeat walk_at "wp"
  refine ⟨_, _, rfl, ?_⟩
  repeat walk_at "wp"
  refine w_pow (by decide) ?_
  repeat walk_at "wp"
  refine w_pow (by decide) ?_
  repeat walk_at "wp"
  refine ⟨le_sz, ?_⟩
  repeat walk_at "wp"
  refine draw_spec (F2.push _) (by decide) (by decide) fun r m3 r0 r1 F3 K3 => ?_
  have e3 := K3.at at_last F2.fresh
  refine W.mono (P := fun d m5 => m3 = m5 ∧ ∃ v : Int, d = .int v ∧ v.natAbs ≤ 10 ^ 59 + 3) ?_ ?_
  · have hr : r = 0 ∨ r = 1 := by omega
    rcases hr with rfl | rfl
    · exact w_ixL e3 rfl ⟨rfl, _, rfl, by rw [show (10 : Int) ^ (6 : Int).toNat = 1000000 by decide]; omega⟩
    · exact w_ixL e3 rfl ⟨rfl, _, rfl, by rw [show (10 : Int) ^ (59 : Int).toNat = 10 ^ 59 by decide]; omega⟩
  rintro _ _ ⟨rfl, v, rfl, hv⟩
  repeat walk_at "wp"
  refine ⟨1, rfl, ?_⟩
  repeat walk_at "wp"
  refine ⟨le_sz, ?_⟩
  repeat walk_at "wp"
  refine draw_spec (F3.push _) (by decide) (by decide) fun r2 m4 r20 r21 F4 K4 => ?_
  have e4 := K4.at at_last F3.fresh
  have K : Kp S m m4 := (((K1.trans K2).trans (.push _)).trans K3).trans ((Kp.push _).trans K4)
  refine W.mono (P := fun d m5 => m4 = m5 ∧ (d = .int 1 ∨ d = .int (-1))) ?_ ?_
  · have hr : r2 = 0 ∨ r2 = 1 := by omega
    rcases hr with rfl | rfl
    · exact w_ixL e4 rfl ⟨rfl, .inl rfl⟩
    · exact w_ixL e4 rfl ⟨rfl, .inr rfl⟩
  rintro d _ ⟨rfl, hd⟩
  have hm : ∀ {P : D → M → Prop}, (∀ i : Int, i.natAbs ≤ 10 ^ 59 + 3 → P (.int i) m4) → W (fMul (.int v) d m4) P := fun h => by
    rcases hd with rfl | rfl
    · exact w_mul (.inr (by decide)) (h _ (by omega))
    · exact w_mul (.inr (by decide)) (h _ (by omega))
  refine hm fun far hfar => ?_
  repeat walk_at "wp"
  refine ⟨le_sz, ?_⟩
  repeat walk_at "wp"
  refine draw_spec (F4.push _) (by decide) (by decide) fun r3 m5 r30 r31 F5 K5 => ?_
  have e5 := K5.at at_last F4.fresh
  have fin : ∀ (i : Int), i.natAbs < 10 ^ 60 → ∃ d, Fl.rt (D.int i) = Fl.rt d ∧ P d m5 := fun i hi => ⟨_, rfl, k i m5 hi F5 (K.trans ((Kp.push _).trans K5))⟩
  have hr : r3 = 0 ∨ r3 = 1 ∨ r3 = 2 ∨ r3 = 3 ∨ r3 = 4 ∨ r3 = 5 ∨ r3 = 6 ∨ r3 = 7 := by omega
  rcases hr with rfl | rfl | rfl | rfl | rfl | rfl | rfl | rfl
  · exact w_ixL e5 rfl (fin _ (by omega))
  · exact w_ixL e5 rfl (fin _ (by omega))
  · exact w_ixL e5 rfl (fin _ (by omega))
  · exact w_ixL e5 rfl (fin _ (by omega))
  · exact w_ixL e5 rfl (fin _ (by omega))
  · exact w_ixL e5 rfl (fin _ (by omega))
  · exact w_ixL e5 rfl (fin _ (by omega))
  · exact w_ixL e5 rfl (fin _ (by omega))
theorem sum_spec {g0 : Nat → Option MO} {S : List Nat} {f : Nat} : ∀ (n w : Nat) (l : Bool) {m : M} {P : D → M → Prop}, 1 ≤ w → w ≤ n → Feed g0 S m f → (∀ (e : E) m', e.ok → e.dep ≤ w → Feed g0 S m' f → Kp S m m' → P e.d m') → W (F__law_sum n [.ref f, .int w, .bl l] m) P
  | 0, w, l, m, P, h1, h2, _, _ => absurd h2 (by omega)
  | n + 1, w, l, m, P, h1, h2, hF, k => by
    refine w_run ?_
    unfold c__law_sum
    repeat walk_at "wp"
    refine ⟨by show 5 ≤ sizeLine; decide, ?_⟩
    repeat walk_at "wp"
    refine ⟨by show 1 ≤ sizeLine; decide, ?_⟩
    repeat walk_at "wp"
    refine w_rep at_last (by cases l <;> decide) ?_
    refine w_addL at_prev2 at_last (by cases l <;> decide) ?_
    have F1 := (((hF.push (.lst [.str "num", .str "slot", .str "slot", .str "plus", .str "minus"])).push (.lst [.str "less"])).push (.lst (List.replicate (if l = true then (1 : Int) else 0).toNat [D.str "less"]).flatten))
    have K1 : Kp S m _ := ((Kp.push (MO.lst [.str "num", .str "slot", .str "slot", .str "plus", .str "minus"])).trans (.push (MO.lst [.str "less"]))).trans (.push (MO.lst (List.replicate (if l = true then (1 : Int) else 0).toNat [D.str "less"]).flatten))
    generalize m ++ [MO.lst [.str "num", .str "slot", .str "slot", .str "plus", .str "minus"]] ++ [MO.lst [.str "less"]] ++ [MO.lst (List.replicate (if l = true then (1 : Int) else 0).toNat [D.str "less"]).flatten] = m1 at F1 K1
    have hW : [D.str "num", .str "slot", .str "slot", .str "plus", .str "minus"] ++ (List.replicate (if l = true then (1 : Int) else 0).toNat [D.str "less"]).flatten = [D.str "num", .str "slot", .str "slot", .str "plus", .str "minus"] ++ (if l = true then [D.str "less"] else []) := by cases l <;> rfl
    rw [hW]
    have F2 := F1.push (.lst ([D.str "num", .str "slot", .str "slot", .str "plus", .str "minus"] ++ (if l = true then [D.str "less"] else [])))
    have K2 := K1.trans (.push (.lst ([D.str "num", .str "slot", .str "slot", .str "plus", .str "minus"] ++ (if l = true then [D.str "less"] else []))))
    have e2 : (m1 ++ [MO.lst ([D.str "num", .str "slot", .str "slot", .str "plus", .str "minus"] ++ (if l = true then [D.str "less"] else []))])[m1.length]? = some (.lst ([D.str "num", .str "slot", .str "slot", .str "plus", .str "minus"] ++ (if l = true then [D.str "less"] else []))) := at_last
    have hn := F1.fresh
    generalize m1.length = t at e2 hn
    generalize m1 ++ [MO.lst ([D.str "num", .str "slot", .str "slot", .str "plus", .str "minus"] ++ (if l = true then [D.str "less"] else []))] = m2 at F2 K2 e2
    walk_at "wp"
    refine W.mono (P := fun d m' => (d = .str "num" ∨ d = .str "slot" ∨ ∃ o : Op, d = .str o.w ∧ 2 ≤ w) ∧ Feed g0 S m' f ∧ Kp S m m') ?_ ?_
    · repeat walk_at "wp"
      have draw : ∀ (q : Int), 0 < q → q ≤ (([D.str "num", .str "slot", .str "slot", .str "plus", .str "minus"] ++ (if l = true then [D.str "less"] else [])).length : Int) → (3 < q → 2 ≤ w) → W (F__law_draw [.ref f, .int q] m2) fun y m3 => W (ixD (.ref t) y m3) fun d m' => (d = .str "num" ∨ d = .str "slot" ∨ ∃ o : Op, d = .str o.w ∧ 2 ≤ w) ∧ Feed g0 S m' f ∧ Kp S m m' := by
        intro q q0 q1 q3
        have q6 : q ≤ 6 := by cases l <;> simp at q1 <;> omega
        refine draw_spec F2 q0 (by omega) fun r m3 r0 r1 F3 K3 => ?_
        have e3 := K3.at e2 hn
        have hr : r = 0 ∨ r = 1 ∨ r = 2 ∨ r = 3 ∨ r = 4 ∨ r = 5 := by omega
        rcases hr with rfl | rfl | rfl | rfl | rfl | rfl
        · exact w_ixL e3 (by cases l <;> rfl) ⟨.inl rfl, F3, K2.trans K3⟩
        · exact w_ixL e3 (by cases l <;> rfl) ⟨.inr (.inl rfl), F3, K2.trans K3⟩
        · exact w_ixL e3 (by cases l <;> rfl) ⟨.inr (.inl rfl), F3, K2.trans K3⟩
        · exact w_ixL e3 (by cases l <;> rfl) ⟨.inr (.inr ⟨.plus, rfl, q3 (by omega)⟩), F3, K2.trans K3⟩
        · exact w_ixL e3 (by cases l <;> rfl) ⟨.inr (.inr ⟨.minus, rfl, q3 (by omega)⟩), F3, K2.trans K3⟩
        · cases l with
          | false => simp at q1; omega
          | true => exact w_ixL e3 rfl ⟨.inr (.inr ⟨.less, rfl, q3 (by omega)⟩), F3, K2.trans K3⟩
      refine ⟨_, rfl, fun e => ?_, fun e => ?_⟩
      · have e : (1 : Int) < w := of_decide_eq_true e
        repeat walk_at "wp"
        refine w_lenL e2 ?_
        repeat walk_at "wp"
        exact draw _ (by simp; omega) (Int.le_refl _) fun _ => by omega
      · repeat walk_at "wp"
        exact draw 3 (by decide) (by simp; omega) fun z => absurd z (by decide)
    rintro d m3 ⟨hd, F3, K3⟩
    rcases hd with rfl | rfl | ⟨o, rfl, hw⟩
    · repeat walk_at "wp"
      refine ifT rfl ?_
      repeat walk_at "wp"
      refine ⟨1, rfl, ?_⟩
      repeat walk_at "wp"
      refine w_pow (by decide) ?_
      repeat walk_at "wp"
      refine draw_spec F3 (by decide) (by decide) fun r m4 r0 r1 F4 K4 => ?_
      repeat walk_at "wp"
      refine ⟨by show 6 ≤ sizeLine; decide, ?_⟩
      repeat walk_at "wp"
      refine draw_spec (F4.push _) (by decide) (by decide) fun r' m5 r0' r1' F5 K5 => ?_
      have e5 := K5.at at_last F4.fresh
      have K : Kp S m m5 := (K3.trans K4).trans ((Kp.push _).trans K5)
      have fin : ∀ (i : Int), i.natAbs ≤ 10 ^ 6 → W (cNil (List.set (enS 6 [D.ref f, .int w, .bl l]) 3 (some (.ref t)) |>.set 4 (some (.str "num"))) m5) fun ds m1 => ([D.str "num", .int i] ++ ds).length ≤ sizeLine ∧ ∃ d_1, Fl.rt (D.tup ([D.str "num", .int i] ++ ds)) = Fl.rt d_1 ∧ P d_1 m1 := fun i hi => w_nil ⟨by show 2 ≤ sizeLine; decide, _, rfl, k (.num i) m5 hi h1 F5 K⟩
      have hr : r' = 0 ∨ r' = 1 ∨ r' = 2 ∨ r' = 3 ∨ r' = 4 ∨ r' = 5 := by omega
      rcases hr with rfl | rfl | rfl | rfl | rfl | rfl
      · exact w_ixL e5 rfl (fin 0 (by decide))
      · exact w_ixL e5 rfl (fin 1 (by decide))
      · exact w_ixL e5 rfl (fin 2 (by decide))
      · exact w_ixL e5 rfl (fin (-1) (by decide))
      · exact w_ixL e5 rfl (fin (10 ^ (6 : Int).toNat) (by decide))
      · exact w_ixL e5 rfl (fin (r - 99) (by omega))
    · repeat walk_at "wp"
      refine ifF ne_sn ?_
      repeat walk_at "wp"
      refine ifT rfl ?_
      repeat walk_at "wp"
      refine ⟨by show 6 ≤ sizeLine; decide, ?_⟩
      repeat walk_at "wp"
      refine draw_spec (F3.push _) (by decide) (by decide) fun r' m5 r0' r1' F5 K5 => ?_
      have e5 := K5.at at_last F3.fresh
      have K : Kp S m m5 := K3.trans ((Kp.push _).trans K5)
      have fin : ∀ (x : Str), (E.slot x).ok → W (cNil (List.set (enS 6 [D.ref f, .int w, .bl l]) 3 (some (.ref t)) |>.set 4 (some (.str "slot"))) m5) fun ds m1 => ([D.str "slot", .str x] ++ ds).length ≤ sizeLine ∧ ∃ d_1, Fl.rt (D.tup ([D.str "slot", .str x] ++ ds)) = Fl.rt d_1 ∧ P d_1 m1 := fun x hx => w_nil ⟨by show 2 ≤ sizeLine; decide, _, rfl, k (.slot x) m5 hx h1 F5 K⟩
      have hr : r' = 0 ∨ r' = 1 ∨ r' = 2 ∨ r' = 3 ∨ r' = 4 ∨ r' = 5 := by omega
      rcases hr with rfl | rfl | rfl | rfl | rfl | rfl
      · exact w_ixL e5 rfl (fin "base" ⟨by decide +kernel, by decide +kernel⟩)
      · exact w_ixL e5 rfl (fin "mine" ⟨by decide +kernel, by decide +kernel⟩)
      · exact w_ixL e5 rfl (fin "theirs" ⟨by decide +kernel, by decide +kernel⟩)
      · exact w_ixL e5 rfl (fin "mine" ⟨by decide +kernel, by decide +kernel⟩)
      · exact w_ixL e5 rfl (fin "theirs" ⟨by decide +kernel, by decide +kernel⟩)
      · exact w_ixL e5 rfl (fin "other" ⟨by decide +kernel, by decide +kernel⟩)
    · repeat walk_at "wp"
      refine ifF o.nn ?_
      repeat walk_at "wp"
      refine ifF o.ns ?_
      repeat walk_at "wp"
      have hw1 : (w : Int) - 1 = ((w - 1 : Nat) : Int) := by omega
      rw [hw1]
      refine sum_spec n (w - 1) l (by omega) (by omega) F3 fun a m4 a1 a2 F4 K4 => ?_
      repeat walk_at "wp"
      rw [hw1]
      refine sum_spec n (w - 1) l (by omega) (by omega) F4 fun b m5 b1 b2 F5 K5 => ?_
      repeat walk_at "wp"
      exact ⟨by show 3 ≤ sizeLine; decide, _, rfl, k (.bin o a b) m5 ⟨a1, b1⟩ (by show max a.dep b.dep + 1 ≤ w; omega) F5 ((K3.trans K4).trans K5)⟩
def G3 (x y z : Int) : Str → Int := fun s => if ("base" : Str) = s then x else if ("mine" : Str) = s then y else if ("theirs" : Str) = s then z else 0
/-! ### numbers written -/
end Law

set_option Elab.async false
set_option linter.all false
set_option maxRecDepth 100000
set_option maxHeartbeats 40000000
set_option exponentiation.threshold 3000
namespace Law
open PySem L2 L3
/-! ### kinds -/
inductive Kd where
  | plain | sum | most | set | list | own (e : E)
def Kd.k : Kd → D
  | .plain => .str "plain"
  | .sum => .str "sum"
  | .most => .str "most"
  | .set => .str "set"
  | .list => .str "list"
  | .own e => .tup [.str "own", e.d]
def Kd.ok : Kd → Prop
  | .own e => e.ok ∧ e.dep ≤ 5
  | _ => True
/-- a cell of it has a number -/
def Kd.num : Kd → Bool
  | .set => false
  | .list => false
  | _ => true
theorem E.py {m : M} {e : E} (h : e.ok ∧ e.dep ≤ 5) : py PYN m (.tup [.str "own", e.d]) = some (.tuple [.str "own", e.p]) ∧ SeqAt.shaped (.tuple [.str "own", e.p]) = true := by
  have r : Rp [] m (.tup [.str "own", e.d]) (.tuple [.str "own", e.p]) := .tup (.cons (.str _) (.cons e.rp .nil))
  have gs : Gb (10 ^ 7) (.str "own") 0 100 := ⟨by decide +kernel, by decide +kernel, by decide +kernel⟩
  have g : Gb (10 ^ 7) (.tuple [.str "own", e.p]) 6 20000 := (Gb.tup (Gbs.cons gs (Gbs.one (E.gb h.1 h.2)))).mono (by omega) (by omega)
  exact ⟨r.py PYN (Nat.lt_of_le_of_lt g.d (by decide)), gd_shaped (by decide) g.g (Nat.le_trans g.d (by decide))⟩
theorem shaped_str {w : Str} (h : PyData.strOk w = true) : SeqAt.shaped (.str w) = true := by
  unfold SeqAt.shaped PyData.canLay0 PyData.depth
  rw [h]; rfl
theorem eqOwn {m : M} {e : E} {w : Str} {P : D → M → Prop} (h : e.ok ∧ e.dep ≤ 5) (hw : PyData.strOk w = true) (k : P (.bl false) m) : W (fEq (.tup [.str "own", e.d]) (.str w) m) P := by
  refine ⟨_, _, ?_, k⟩
  obtain ⟨e1, e2⟩ := E.py (m := m) h
  show fEqD (.tup [.str "own", e.d]) (.str w) m = _
  have e3 : L3.py PYN m (.str w) = some (.str w) := rfl
  unfold fEqD
  rw [e1, e3]
  simp only [e2, shaped_str hw, Bool.and_self, if_true]
  rfl
local macro_rules | `(tactic| walk_at "kd") => `(tactic| first
  | walk_at "wp" | refine Law.ifF (by decide +kernel) ?_ | refine Law.ifT (by decide +kernel) ?_ | refine Law.eqOwn (by assumption) (by decide +kernel) ⟨_, rfl, (fun z => nomatch z), fun _ => ?_⟩)
theorem any_strs (x : Str) : ∀ ws : List Str, ((ws.map D.str).any fun y => eqF y (.str x)) = ws.any fun w => w == x
  | [] => rfl
  | n :: ns => by
    rw [List.map_cons, List.any_cons, any_strs x ns, List.any_cons]; rfl
theorem flat_strs : ∀ ws : List Str, (ws.map D.str).all flatD = true
  | [] => rfl
  | _ :: ws => flat_strs ws
theorem pys_strs {n : Nat} {m : M} : ∀ ws : List Str, pys (L3.py (n + 1) m) (ws.map D.str) = some (ws.map PyData.str)
  | [] => rfl
  | w :: ws => by rw [List.map_cons, List.map_cons]; unfold pys; rw [pys_strs ws]; rfl
theorem lay_strs : ∀ {ws : List Str}, ws.all PyData.strOk = true → PyData.canLayAll0 (ws.map PyData.str) = true
  | [], _ => rfl
  | w :: ws, h => by
    rw [List.all_cons, Bool.and_eq_true] at h
    rw [List.map_cons]; unfold PyData.canLayAll0 PyData.canLay0; rw [h.1, lay_strs h.2]; rfl
theorem eqv_strs {p : List PyData} : ∀ ws : List Str, ((ws.map PyData.str).any fun y => PyData.eqv y (.tuple p)) = false
  | [] => rfl
  | w :: ws => by rw [List.map_cons, List.any_cons, eqv_strs ws]; rfl
/-- whether the kind is one of these words -/
def Kd.among : Kd → List Str → Bool
  | .plain, ws => ws.any fun w => w == "plain"
  | .sum, ws => ws.any fun w => w == "sum"
  | .most, ws => ws.any fun w => w == "most"
  | .set, ws => ws.any fun w => w == "set"
  | .list, ws => ws.any fun w => w == "list"
  | .own _, _ => false
theorem inK_own {m : M} {e : E} {ws : List Str} {n : Bool} (h : e.ok ∧ e.dep ≤ 5) (hw : ws.all PyData.strOk = true) : fInD n (.tup [.str "own", e.d]) (.tup (ws.map D.str)) m = some (.bl n, m) := by
  obtain ⟨e1, e2⟩ := E.py (m := m) h
  have e3 : L3.py PYN m (.tup (ws.map D.str)) = some (.tuple (ws.map PyData.str)) := by
    show (pys (L3.py 49 m) (ws.map D.str)).map PyData.tuple = _
    rw [pys_strs ws]; rfl
  unfold fInD
  rw [e1, Option.bind_some, e3, Option.bind_some]
  show (some (ws.map PyData.str)).bind _ = _
  rw [Option.bind_some, if_pos (by rw [e2, lay_strs hw]; rfl), eqv_strs]
  cases n <;> rfl
theorem ninK {m : M} {kd : Kd} {ws : List Str} {P : D → M → Prop} (hk : kd.ok) (hw : ws.all PyData.strOk = true) (k : P (.bl (!kd.among ws)) m) : W (fNinX kd.k (.tup (ws.map D.str)) m) P := by
  have key : ∀ {x : Str}, P (.bl (!ws.any fun w => w == x)) m → W (fNinX (.str x) (.tup (ws.map D.str)) m) P := fun {x} k => by
    refine w_orL (w_ninT (by rw [flat_strs]; rfl) ?_)
    rw [any_strs]
    exact k
  cases kd with
  | own e =>
    refine w_orR ?_ ⟨_, _, inK_own hk hw, k⟩
    show fNinL (.tup [.str "own", e.d]) (.tup (ws.map D.str)) m = none
    rfl
  | plain => exact key k
  | sum => exact key k
  | most => exact key k
  | set => exact key k
  | list => exact key k
def OkL (ns : List Int) : Prop := ns.length ≤ 40 ∧ ∀ n ∈ ns, -1 ≤ n ∧ n ≤ 10
def OkS (ns : List Int) : Prop := ns.Pairwise (· < ·) ∧ ∀ n ∈ ns, -1 ≤ n ∧ n ≤ 10
theorem ded_ok {ns : List Int} (h : ∀ n ∈ ns, -1 ≤ n ∧ n ≤ 10) : (dedZ ns).length < 64 ∧ OkS (srt (dedZ ns)) := by
  have hm : ∀ n ∈ dedZ ns, -1 ≤ n ∧ n ≤ 10 := fun n hn => h n ((mem_ded ns n).mp hn)
  exact ⟨Nat.lt_of_le_of_lt (few_of (ded_nodup ns) hm) (by decide), srt_lt (ded_nodup ns), fun n hn => hm n ((srt_mem _ n).mp hn)⟩
/-- the drawn list of numbers from -1 to 10 -/
theorem has_list {g0 : Nat → Option MO} {S : List Nat} {m : M} {f : Nat} {kd : Kd} {R : Fl → M → Prop} {rest : CS} (hF : Feed g0 S m f)
    (k : ∀ (ns : List Int) (t : Nat) (x2 : Option D) m', ns.length ≤ 40 → (∀ n ∈ ns, -1 ≤ n ∧ n ≤ 10) → m'[t]? = some (.lst (ns.map D.int)) → Feed g0 S m' f → Kp S m m' → W (rest [some (.ref f), some kd.k, x2, some (.ref t), none, none] m') R) :
    W (cSeq (cAsg (cLst (cCons (cCall F__law_draw (cCons (cVar 0) (cCons (cC (.int 5)) cNil))) (cCons (cCall F__law_draw (cCons (cVar 0) (cCons (cC (.int 5)) cNil))) (cCons (cC (.int 40)) cNil)))) (gSet 2))
      (cSeq (cAsg (cLc (iRngD (cCons (c2 ixD (cVar 2) (c2 fDiv (cCall F__law_draw (cCons (cVar 0) (cCons (cC (.int 9)) cNil))) (cC (.int 4)))) cNil)) (gSet 4) cYes (c2 fSub (cCall F__law_draw (cCons (cVar 0) (cCons (cC (.int 6)) cNil))) (cC (.int 1))) [4]) (gSet 3))
      (cSeq (cAsg (cLc (iEnumD (cCons (cVar 3) cNil)) (gTupD 2 (gsCons (gSet 4) (gsCons (gSet 5) gsNil))) cYes (c2 fAdd (cVar 5) (c2 fMul (c2 fDiv (cVar 4) (cC (.int 6))) (cCall (f1 intD) (cCons (c2 fGt (cCall (f1 lenD) (cCons (cVar 3) cNil)) (cC (.int 9))) cNil)))) [4, 5]) (gSet 3)) rest)) [some (.ref f), some kd.k, none, none, none, none] m) R := by
  repeat walk_at "wp"
  refine draw_spec hF (by decide) (by decide) fun a m1 a0 a1 F1 K1 => ?_
  repeat walk_at "wp"
  refine draw_spec F1 (by decide) (by decide) fun b m2 b0 b1 F2 K2 => ?_
  repeat walk_at "wp"
  refine ⟨le_sz, ?_⟩
  repeat walk_at "wp"
  refine w_lcR ?_
  refine W.mono (P := fun ds m' => ∃ j : Int, ds = [.int j] ∧ 0 ≤ j ∧ j ≤ 40 ∧ Feed g0 S m' f ∧ Kp S m m') ?_ ?_
  · repeat walk_at "wp"
    refine draw_spec (F2.push _) (by decide) (by decide) fun r m3 r0 r1 F3 K3 => ?_
    repeat walk_at "wp"
    refine w_div (by decide) ?_
    have e3 := K3.at at_last F2.fresh
    have K : Kp S m m3 := (K1.trans K2).trans ((Kp.push _).trans K3)
    have hr : r / 4 = 0 ∨ r / 4 = 1 ∨ r / 4 = 2 := by omega
    rcases hr with hr | hr | hr
    · rw [hr]; exact w_ixL e3 rfl (w_nil ⟨a, rfl, a0, by omega, F3, K⟩)
    · rw [hr]; exact w_ixL e3 rfl (w_nil ⟨b, rfl, b0, by omega, F3, K⟩)
    · rw [hr]; exact w_ixL e3 rfl (w_nil ⟨40, rfl, by decide, by decide, F3, K⟩)
  rintro _ m3 ⟨j, rfl, j0, j1, F3, K3⟩
  refine ⟨j, rfl, ⟨by omega, by omega⟩, Nat.le_trans (m := 40) (by omega) (by decide), ?_⟩
  refine w_lcL (fun ds out m' => (∃ ns : List Int, out = ns.map D.int ∧ (∀ n ∈ ns, -1 ≤ n ∧ n ≤ 4) ∧ ns.length + ds.length ≤ 40) ∧ Feed g0 S m' f ∧ Kp S m m') (fun _ _ _ _ => Wt.none) ?_ _ [] m3 _ ⟨⟨[], rfl, (fun n hn => nomatch hn), by simp; omega⟩, F3, K3⟩ ?_
  · rintro d ds out m4 ⟨⟨ns, rfl, hb, hl⟩, F4, K4⟩
    refine ⟨_, rfl, W.some ⟨fun _ => ?_, fun z => nomatch z⟩⟩
    repeat walk_at "wp"
    refine draw_spec F4 (by decide) (by decide) fun r m5 r0 r1 F5 K5 => ?_
    repeat walk_at "wp"
    refine ⟨⟨ns ++ [r - 1], by rw [List.map_append]; rfl, fun n hn => ?_, by simp at hl ⊢; omega⟩, F5, K4.trans K5⟩
    rcases List.mem_append.mp hn with hn | hn
    · exact hb n hn
    · rw [List.mem_singleton.mp hn]; omega
  rintro out m4 ⟨⟨ns, hout, hb, hl⟩, F4, K4⟩
  rw [List.nil_append] at hout
  subst hout
  have F5 := F4.push (.lst (ns.map D.int))
  have K5 := K4.trans (.push (.lst (ns.map D.int)))
  have e5 : (m4 ++ [MO.lst (ns.map D.int)])[m4.length]? = some (.lst (ns.map D.int)) := at_last
  generalize m4.length = t at e5
  generalize m4 ++ [MO.lst (ns.map D.int)] = m5 at F5 K5 e5
  simp at hl
  repeat walk_at "wp"
  refine w_lcE ?_
  repeat walk_at "wp"
  refine ⟨t, _, rfl, e5, by rw [List.length_map]; exact Nat.le_trans hl (by decide), ?_⟩
  refine w_lcL (fun ds out m' => m' = m5 ∧ (∃ ks : List Int, out = ks.map D.int ∧ (∀ n ∈ ks, -1 ≤ n ∧ n ≤ 10) ∧ ks.length + ds.length ≤ 40) ∧ ∀ d ∈ ds, ∃ i x : Int, d = .tup [.int i, .int x] ∧ 0 ≤ i ∧ i ≤ 40 ∧ -1 ≤ x ∧ x ≤ 4) (fun _ _ m' h i hi => by rw [h.1]) ?_ _ [] m5 _ ⟨rfl, ⟨[], rfl, (fun n hn => nomatch hn), by simp; exact hl⟩, fun d hd => ?_⟩ ?_
  · rintro d ds out m6 ⟨rfl, ⟨ks, rfl, hk, hkl⟩, hds⟩
    obtain ⟨i, x, rfl, i0, i1, x0, x1⟩ := hds d (by simp)
    refine ⟨_, rfl, W.some ⟨fun _ => ?_, fun z => nomatch z⟩⟩
    repeat walk_at "wp"
    refine w_div (by decide) ?_
    repeat walk_at "wp"
    refine w_lenL e5 ?_
    repeat walk_at "wp"
    refine w_mul (.inl (by constructor <;> omega)) ?_
    repeat walk_at "wp"
    refine ⟨rfl, ⟨ks ++ [_], by simp; rfl, fun n hn => ?_, by simp at hkl ⊢; omega⟩, fun d hd => hds d (List.mem_cons_of_mem _ hd)⟩
    rcases List.mem_append.mp hn with hn | hn
    · exact hk n hn
    · rw [List.mem_singleton.mp hn]
      split <;> omega
  · obtain ⟨⟨y, i⟩, hy, rfl⟩ := List.mem_map.mp hd
    have h1 := List.mem_zipIdx hy
    simp at h1
    obtain ⟨h2, h3⟩ := h1
    refine ⟨i, ns[i], by rw [h3], by omega, by omega, ?_⟩
    exact hb _ (List.getElem_mem _)
  · rintro out m6 ⟨rfl, ⟨ks, hout, hk, hkl⟩, _⟩
    rw [List.nil_append] at hout
    subst hout
    simp at hkl
    exact k ks _ _ _ hkl hk at_last (F5.push _) (K5.trans (.push _))
/-- what a cell has -/
inductive Vl where
  | n (i : Int) | t (ns : List Int)
def Vl.d : Vl → D
  | .n i => .int i
  | .t ns => .tup (ns.map D.int)
def Kd.okv : Kd → Vl → Prop
  | .set, .t ns => OkS ns
  | .list, .t ns => OkL ns
  | .set, .n _ => False
  | .list, .n _ => False
  | _, .n i => i.natAbs < 10 ^ 60
  | _, .t _ => False
theorem among_sl (kd : Kd) : (!kd.among ["set", "list"]) = kd.num := by cases kd <;> first | rfl | decide +kernel
theorem okv_n {kd : Kd} {i : Int} (h : kd.num = true) (hi : i.natAbs < 10 ^ 60) : kd.okv (.n i) := by
  cases kd <;> first | exact hi | cases h
theorem has_spec {g0 : Nat → Option MO} {S : List Nat} {m : M} {f : Nat} {P : D → M → Prop} (kd : Kd) (hk : kd.ok) (hF : Feed g0 S m f) (k : ∀ (v : Vl) m', kd.okv v → Feed g0 S m' f → Kp S m m' → P v.d m') : W (F__law_has [.ref f, kd.k] m) P := by
  refine w_run ?_
  unfold c__law_has
  repeat (first | walk_at "wp" | refine ⟨le_sz, ?_⟩)
  refine ninK (ws := ["set", "list"]) hk (by decide +kernel) ⟨_, congrArg D.bl (among_sl kd), fun h => ?_, fun h => ?_⟩
  · repeat walk_at "wp"
    exact number_spec hF fun i m' hi F' K' => ⟨_, rfl, k (.n i) _ (okv_n h hi) F' K'⟩
  · walk_at "wp"
    refine has_list hF fun ns t x2 m' hl hb e F' K' => ?_
    repeat walk_at "wp"
    cases kd with
    | set =>
      repeat walk_at "kd"
      refine w_ss ?_
      repeat walk_at "wp"
      refine ⟨ns, by unfold itemsD; simp only [e], Nat.lt_of_le_of_lt (Nat.add_le_add_right hl 1) (by decide), (ded_ok hb).1, ?_⟩
      repeat walk_at "wp"
      exact w_tupL at_last ⟨_, rfl, k (.t _) _ (ded_ok hb).2 (F'.push _) (K'.trans (.push _))⟩
    | list =>
      repeat walk_at "kd"
      exact w_tupL e ⟨_, rfl, k (.t _) _ ⟨hl, hb⟩ F' K'⟩
    | plain => cases h
    | sum => cases h
    | most => cases h
    | own _ => cases h
/-! ### merged -/
theorem lc_filter {m0 : M} {ρ : En} {g : D → En → Option En} {tt : CT} {ce : CE} {p : Int → Bool} (h : ∀ (x : Int) (m : M), ∃ ρ1, g (.int x) ρ = some ρ1 ∧ W (tt ρ1 m) (fun t m1 => t = p x ∧ m1 = m) ∧ W (ce ρ1 m) (fun d m1 => d = .int x ∧ m1 = m)) :
    ∀ (ns : List Int) (m : M) {P : List D → M → Prop}, P ((ns.filter p).map D.int) m → W (lcL none m0 g tt ce ρ (ns.map D.int) m) P
  | [], m, P, hP => w_lcNil hP
  | x :: ns, m, P, hP => by
    obtain ⟨ρ1, e, ⟨t, m1, e1, rfl, rfl⟩, ⟨d, m2, e2, rfl, rfl⟩⟩ := h x m
    rw [List.map_cons]
    unfold lcL
    rw [if_pos Wt.none]
    refine W.bindO e (W.bindO e1 ?_)
    rw [List.filter_cons] at hP
    cases hp : p x with
    | true =>
      rw [hp] at hP
      simp only [if_true] at hP ⊢
      refine W.bindO e2 (W.bind ?_)
      exact lc_filter h ns _ (P := fun r m' => W (some (D.int x :: r, m')) P) (W.some hP)
    | false =>
      rw [hp] at hP
      simp only [Bool.false_eq_true, if_false] at hP ⊢
      exact lc_filter h ns _ hP
def mset (b m t : List Int) : List Int := srt (m.filter (fun x => t.contains x || !b.contains x) ++ t.filter (fun x => !b.contains x && !m.contains x))
/-- what comes of base, mine, theirs -/
def mrg : Kd → Vl → Vl → Vl → Option Vl
  | .plain, _, _, t => some t
  | .sum, .n b, .n m, .n t => some (.n (m + t - b))
  | .most, .n _, .n m, .n t => some (.n (if t > m then t else m))
  | .set, .t b, .t m, .t t => if m.length + t.length < 64 then some (.t (mset b m t)) else none
  | .list, .t b, .t m, .t t => if m.length + t.length ≤ 1000 then some (.t (m ++ t.drop b.length)) else none
  | .own e, .n b, .n m, .n t => some (.n (e.val (G3 b m t)))
  | _, _, _, _ => none
end Law

set_option Elab.async false
set_option linter.all false
set_option maxRecDepth 100000
set_option maxHeartbeats 40000000
set_option exponentiation.threshold 3000
local macro_rules | `(tactic| walk_at "kd") => `(tactic| first
  | walk_at "wp" | refine Law.ifF (by decide +kernel) ?_ | refine Law.ifT (by decide +kernel) ?_ | refine Law.eqOwn (by assumption) (by decide +kernel) ⟨_, rfl, (fun z => nomatch z), fun _ => ?_⟩)
namespace Law
open PySem L2 L3
/-! ### repr, == -/
def Vl.p : Vl → PyData
  | .n i => .int i
  | .t ns => .tuple (ns.map PyData.int)
theorem rps_ints {S : List Nat} {m : M} : ∀ ns : List Int, Rps S m (ns.map D.int) (ns.map PyData.int)
  | [] => .nil
  | n :: ns => .cons (.int n) (rps_ints ns)
theorem Vl.rp {S : List Nat} {m : M} (v : Vl) : Rp S m v.d v.p := by
  cases v with
  | n i => exact .int i
  | t ns => exact .tup (rps_ints ns)
theorem gb_int {B : Nat} {i : Int} (h : i.natAbs < B) : Gb B (.int i) 0 251 := ⟨decide_eq_true h, Nat.le_refl _, Nat.le_refl _⟩
theorem gbs_ints {B : Nat} : ∀ {ns : List Int}, (∀ x ∈ ns, x.natAbs < B) → Gbs B (ns.map PyData.int) 0 (ns.length * 253)
  | [], _ => Gbs.nil
  | n :: ns, h => (Gbs.cons (gb_int (h n (List.mem_cons_self ..))) (gbs_ints fun x hx => h x (List.mem_cons_of_mem _ hx))).mono (by omega) (by rw [List.length_cons]; omega)
abbrev BB : Nat := 10 ^ 62
/-- small enough to be shown -/
def Bd : Vl → Prop
  | .n i => i.natAbs < BB
  | .t ns => ns.length ≤ 300 ∧ ∀ x ∈ ns, x.natAbs < BB
theorem Bd.gb {v : Vl} (h : Bd v) : Gb BB v.p 1 80000 := by
  cases v with
  | n i => exact (gb_int h).mono (by omega) (by omega)
  | t ns =>
    have h : ns.length ≤ 300 ∧ ∀ x ∈ ns, x.natAbs < BB := h
    exact (Gb.tup (gbs_ints h.2)).mono (by omega) (by have := h.1; omega)
theorem Bd.sml {ns : List Int} (h1 : ns.length ≤ 300) (h : ∀ n ∈ ns, -1 ≤ n ∧ n ≤ 10) : Bd (.t ns) := ⟨h1, fun x hx => by have := h x hx; exact Nat.lt_of_le_of_lt (m := 10) (by omega) (by decide)⟩
theorem okS_few {ns : List Int} (h : OkS ns) : ns.length ≤ 12 := few_of (h.1.imp fun h => by omega) h.2
theorem okv_bd {kd : Kd} {v : Vl} (h : kd.okv v) : Bd v := by
  cases kd <;> cases v <;> first | exact h.elim | exact Nat.lt_trans h (by decide) | skip
  · have h : OkS _ := h
    exact Bd.sml (Nat.le_trans (okS_few h) (by decide)) h.2
  · have h : OkL _ := h
    exact Bd.sml (Nat.le_trans h.1 (by decide)) h.2
def Kd.p : Kd → PyData
  | .plain => .str "plain"
  | .sum => .str "sum"
  | .most => .str "most"
  | .set => .str "set"
  | .list => .str "list"
  | .own e => .tuple [.str "own", e.p]
theorem Kd.rp {S : List Nat} {m : M} (kd : Kd) : Rp S m kd.k kd.p := by
  cases kd with
  | own e => exact .tup (.cons (.str _) (.cons e.rp .nil))
  | _ => exact .str _
theorem Kd.gb {kd : Kd} (h : kd.ok) : Gb BB kd.p 6 20000 := by
  cases kd with
  | own e =>
    have gs : Gb (10 ^ 7) (.str "own") 0 100 := ⟨by decide +kernel, by decide +kernel, by decide +kernel⟩
    exact ((Gb.tup (Gbs.cons gs (Gbs.one (E.gb h.1 h.2)))).mono (by omega) (by omega)).up (by decide)
  | plain => exact ⟨by decide +kernel, by decide +kernel, by decide +kernel⟩
  | sum => exact ⟨by decide +kernel, by decide +kernel, by decide +kernel⟩
  | most => exact ⟨by decide +kernel, by decide +kernel, by decide +kernel⟩
  | set => exact ⟨by decide +kernel, by decide +kernel, by decide +kernel⟩
  | list => exact ⟨by decide +kernel, by decide +kernel, by decide +kernel⟩
theorem same_ne {s : Str} {A B : Prop} (h : B) : ∃ b, D.bl (!decide (s = s)) = .bl b ∧ (b = true → A) ∧ (b = false → B) := ⟨_, rfl, fun e => absurd e (by simp), fun _ => h⟩
/-! ### a drawn kind -/
def xB : E := .slot "base"
def xM : E := .slot "mine"
def xT : E := .slot "theirs"
def fixE : List E := [.bin .plus xM (.bin .minus xT xB), xM, xT, .bin .plus xM (.bin .less xB xT)]
theorem fix_ok : ∀ e ∈ fixE, e.ok ∧ e.dep ≤ 5 := by
  have hB : xB.ok := ⟨by decide +kernel, by decide +kernel⟩
  have hM : xM.ok := ⟨by decide +kernel, by decide +kernel⟩
  have hT : xT.ok := ⟨by decide +kernel, by decide +kernel⟩
  intro e he
  simp only [fixE, List.mem_cons, List.not_mem_nil, or_false] at he
  rcases he with rfl | rfl | rfl | rfl
  · exact ⟨⟨hM, hT, hB⟩, by decide⟩
  · exact ⟨hM, by decide⟩
  · exact ⟨hT, by decide⟩
  · exact ⟨⟨hM, hB, hT⟩, by decide⟩
theorem kind_spec {g0 : Nat → Option MO} {S : List Nat} {m : M} {f : Nat} {P : D → M → Prop} (hF : Feed g0 S m f) (k : ∀ (kd : Kd) m', kd.ok → Feed g0 S m' f → Kp S m m' → P kd.k m') : W (F__law_kind [.ref f] m) P := by
  refine w_run ?_
  unfold c__law_kind
  refine w_sAsgG ?_
  repeat (first | walk_at "wp" | refine ⟨le_sz, ?_⟩)
  refine ⟨_, rfl, ?_⟩
  repeat (first | walk_at "wp" | refine ⟨le_sz, ?_⟩)
  have F1 := hF.push (.lst (fixE.map E.d))
  have K1 : Kp S m (m ++ [.lst (fixE.map E.d)]) := .push _
  have e1 : (m ++ [MO.lst (fixE.map E.d)])[m.length]? = some (.lst (fixE.map E.d)) := at_last
  have hm := hF.fresh
  refine draw_spec (show Feed g0 S (m ++ [.lst (fixE.map E.d)]) f from F1) (by decide) (by decide) fun r m2 r0 r1 F2 K2 => ?_
  repeat walk_at "wp"
  refine draw_spec F2 (by decide) (by decide) fun q m3 q0 q1 F3 K3 => ?_
  repeat walk_at "wp"
  have hr : 1 + r = (((1 + r).toNat : Nat) : Int) := by omega
  rw [hr]
  refine sum_spec 12 (1 + r).toNat _ (by omega) (by omega) F3 fun e m4 eo ed F4 K4 => ?_
  repeat (first | walk_at "wp" | refine ⟨le_sz, ?_⟩)
  refine w_rep at_last ⟨by decide, by decide, le_sz (n := 4)⟩ ?_
  have K5 : Kp S m (m4 ++ [MO.lst [e.d]] ++ [MO.lst (List.replicate (4 : Int).toNat [e.d]).flatten]) := (((K1.trans K2).trans K3).trans K4).trans ((Kp.push _).trans (.push _))
  have e5 : (m4 ++ [MO.lst [e.d]] ++ [MO.lst (List.replicate (4 : Int).toNat [e.d]).flatten])[m.length]? = some (.lst (fixE.map E.d)) := ((((K2.trans K3).trans K4).trans ((Kp.push _).trans (.push _))).at e1 hm)
  have F5 := (F4.push (.lst [e.d])).push (.lst (List.replicate (4 : Int).toNat [e.d]).flatten)
  have e6 : (m4 ++ [MO.lst [e.d]] ++ [MO.lst (List.replicate (4 : Int).toNat [e.d]).flatten])[List.length (m4 ++ [MO.lst [e.d]])]? = some (.lst ([e, e, e, e].map E.d)) := at_last
  generalize m4 ++ [MO.lst [e.d]] ++ [MO.lst (List.replicate (4 : Int).toNat [e.d]).flatten] = m6 at K5 e5 F5 e6
  repeat walk_at "wp"
  refine w_addL e6 e5 (le_sz (n := 8)) ?_
  have F7 := F5.push (.lst ([e, e, e, e].map E.d ++ fixE.map E.d))
  have K7 := K5.trans (.push (.lst ([e, e, e, e].map E.d ++ fixE.map E.d)))
  have e7 : (m6 ++ [MO.lst ([e, e, e, e].map E.d ++ fixE.map E.d)])[m6.length]? = some (.lst (([e, e, e, e] ++ fixE).map E.d)) := at_last
  have h7 := F5.fresh
  generalize m6.length = t at e7 h7
  generalize m6 ++ [MO.lst ([e, e, e, e].map E.d ++ fixE.map E.d)] = m7 at F7 K7 e7
  repeat walk_at "wp"
  refine draw_spec F7 (by decide) (by decide) fun i m8 i0 i1 F8 K8 => ?_
  have hall : ∀ x ∈ [e, e, e, e] ++ fixE, x.ok ∧ x.dep ≤ 5 := fun x hx => by
    rcases List.mem_append.mp hx with hx | hx
    · have : x = e := by simpa using hx
      rw [this]; exact ⟨eo, by omega⟩
    · exact fix_ok x hx
  have hi : i.toNat < ([e, e, e, e] ++ fixE).length := by show i.toNat < 8; omega
  have ha : atI (([e, e, e, e] ++ fixE).map E.d) i = some (([e, e, e, e] ++ fixE)[i.toNat].d) := by
    have := atI_nat (xs := ([e, e, e, e] ++ fixE).map E.d) (j := i.toNat) (v := ([e, e, e, e] ++ fixE)[i.toNat].d) (by rw [List.getElem?_map, List.getElem?_eq_getElem hi]; rfl)
    rw [show ((i.toNat : Nat) : Int) = i by omega] at this
    exact this
  refine w_ixL (K8.at e7 h7) ha ?_
  have hx := hall _ (List.getElem_mem hi)
  generalize ([e, e, e, e] ++ fixE)[i.toNat] = x at hx
  repeat (first | walk_at "wp" | refine ⟨le_sz, ?_⟩)
  refine draw_spec (F8.push _) (by decide) (by decide) fun j m9 j0 j1 F9 K9 => ?_
  have e9 := K9.at at_last F8.fresh
  have KK : Kp S m m9 := (K7.trans K8).trans ((Kp.push _).trans K9)
  have hj : j = 0 ∨ j = 1 ∨ j = 2 ∨ j = 3 ∨ j = 4 ∨ j = 5 := by omega
  rcases hj with rfl | rfl | rfl | rfl | rfl | rfl
  · exact w_ixL e9 rfl ⟨_, rfl, k .plain m9 trivial F9 KK⟩
  · exact w_ixL e9 rfl ⟨_, rfl, k .sum m9 trivial F9 KK⟩
  · exact w_ixL e9 rfl ⟨_, rfl, k .most m9 trivial F9 KK⟩
  · exact w_ixL e9 rfl ⟨_, rfl, k .set m9 trivial F9 KK⟩
  · exact w_ixL e9 rfl ⟨_, rfl, k .list m9 trivial F9 KK⟩
  · exact w_ixL e9 rfl ⟨_, rfl, k (.own x) m9 hx F9 KK⟩
end Law

set_option Elab.async false
set_option linter.all false
set_option maxRecDepth 100000
set_option maxHeartbeats 40000000
set_option exponentiation.threshold 3000
namespace Law
open PySem L2 L3
section
variable {ρ : En} {m : M}
theorem w_orF {a b : CT} {P : Bool → M → Prop} (h : W (a ρ m) fun t m1 => t = false ∧ W (b ρ m1) P) : W (cOrT a b ρ m) P :=
  w_orT (h.mono fun t m1 ⟨e, h⟩ => ⟨(fun z => by rw [e] at z; cases z), fun _ => h⟩)
theorem w_orTt {a b : CT} {P : Bool → M → Prop} (h : W (a ρ m) fun t m1 => t = true ∧ P true m1) : W (cOrT a b ρ m) P :=
  w_orT (h.mono fun t m1 ⟨e, h⟩ => ⟨(fun _ => h), fun z => by rw [e] at z; cases z⟩)
theorem w_ifF {c : CT} {a b r : CS} {R : Fl → M → Prop} (h : W (c ρ m) fun t m1 => t = false ∧ W (cSeq b r ρ m1) R) : W (cSeq (cIfS c a b) r ρ m) R :=
  w_sIf (h.mono fun t m1 ⟨e, h⟩ => ⟨(fun z => by rw [e] at z; cases z), fun _ => h⟩)
theorem w_ifT {c : CT} {a b r : CS} {R : Fl → M → Prop} (h : W (c ρ m) fun t m1 => t = true ∧ W (cSeq a r ρ m1) R) : W (cSeq (cIfS c a b) r ρ m) R :=
  w_sIf (h.mono fun t m1 ⟨e, h⟩ => ⟨(fun _ => h), fun z => by rw [e] at z; cases z⟩)
theorem w_eqF {a b : Str} {P : D → M → Prop} (h : ¬ a = b) (k : P (.bl false) m) : W (fEq (.str a) (.str b) m) P := w_eqS (by rw [decide_eq_false h]; exact k)
theorem w_eqT {a : Str} {P : D → M → Prop} (k : P (.bl true) m) : W (fEq (.str a) (.str a) m) P := w_eqS (by rw [decide_eq_true rfl]; exact k)
theorem w_andF {a b : CT} {P : Bool → M → Prop} (h : W (a ρ m) fun t m1 => t = false ∧ P false m1) : W (cAndT a b ρ m) P :=
  w_andT (h.mono fun t m1 ⟨e, h⟩ => ⟨(fun z => by rw [e] at z; cases z), fun _ => h⟩)
theorem w_andG {a b : CT} {P : Bool → M → Prop} (h : W (a ρ m) fun t m1 => t = true ∧ W (b ρ m1) P) : W (cAndT a b ρ m) P :=
  w_andT (h.mono fun t m1 ⟨e, h⟩ => ⟨(fun _ => h), fun z => by rw [e] at z; cases z⟩)
end
def Tells (F : FD) (as : List D) (d : D) : Prop := ∀ (m : M) (P : D → M → Prop), (∀ m', Kp [] m m' → P d m') → W (F as m) P
/-- a word of a change -/
inductive Tm where
  | write | add | put | take | row | no (w : Str)
def Tm.w : Tm → Str
  | .write => "write"
  | .add => "add"
  | .put => "put"
  | .take => "take"
  | .row => "row"
  | .no w => w
def Tm.ok : Tm → Prop
  | .no w => ¬ w = "write" ∧ ¬ w = "add" ∧ ¬ w = "put" ∧ ¬ w = "take" ∧ ¬ w = "row"
  | _ => True
def putL (ns : List Int) (x : Int) : List Int := srt (ns.filter (fun y => !decide (y = x)) ++ [x])
def takeL (ns : List Int) (x : Int) : List Int := ns.filter fun y => !decide (y = x)
/-- what the change tells -/
def act (tm : Tm) (kd : Kd) (v : Vl) (x : Int) : Option Vl := match tm with
  | .write => if kd.num = true then some (.n x) else none
  | .add => match kd, v with
    | .sum, .n i => some (.n (i + x))
    | _, _ => none
  | .put => match kd, v with
    | .set, .t ns => some (.t (putL ns x))
    | _, _ => none
  | .take => match kd, v with
    | .set, .t ns => some (.t (takeL ns x))
    | _, _ => none
  | .row => match kd, v with
    | .list, .t ns => some (.t (ns ++ [x]))
    | _, _ => none
  | .no _ => none
theorem eqKd {m : M} {kd : Kd} {w : Str} {P : D → M → Prop} (hk : kd.ok) (hw : PyData.strOk w = true) (k : P (.bl (kd.among [w])) m) : W (fEq kd.k (.str w) m) P := by
  have key : ∀ {x : Str}, P (.bl ([w].any fun y => y == x)) m → W (fEq (.str x) (.str w) m) P := fun {x} k => by
    refine w_eqS ?_
    have e : decide (x = w) = [w].any fun y => y == x := by
      by_cases h : x = w
      · rw [decide_eq_true h, h]; simp
      · rw [decide_eq_false h]
        have : (w == x) = false := by simpa using fun z => h z.symm
        simp [this]
    rw [e]; exact k
  cases kd with
  | own e => exact eqOwn hk hw k
  | plain => exact key k
  | sum => exact key k
  | most => exact key k
  | set => exact key k
  | list => exact key k
theorem suits_write {kd : Kd} (hk : kd.ok) : Tells F_suits [.str "write", kd.k] (.bl kd.num) := fun m P k => by
  refine w_run ?_
  unfold c_suits
  refine w_ifT <| w_B <| w_c2 <| w_var rfl <| w_c <| w_eqT ⟨_, rfl, rfl, ?_⟩
  refine w_sRet <| w_c2 <| w_var rfl <| w_tup <| w_cons <| w_c <| w_cons <| w_c <| w_nil ⟨le_sz, ?_⟩
  refine ninK (kd := kd) (ws := ["set", "list"]) hk (by decide +kernel) ?_
  rw [among_sl kd]
  exact ⟨_, rfl, k _ .refl⟩
theorem suits_only {kd : Kd} {w x : Str} (hk : kd.ok) (h : tabGet tab_ONLY w = some (.str x)) (hw : ¬ w = "write") (hx : PyData.strOk x = true) : Tells F_suits [.str w, kd.k] (.bl (kd.among [x])) := fun m P k => by
  refine w_run ?_
  unfold c_suits
  refine w_ifF <| w_B <| w_c2 <| w_var rfl <| w_c <| w_eqF hw ⟨_, rfl, rfl, ?_⟩
  refine w_sNext <| w_ret <| w_orV <| w_min <| w_var rfl ⟨w, rfl, ?_⟩
  rw [h]
  exact ⟨false, rfl, (fun z => nomatch z), fun _ => w_c2 <| w_var rfl <| w_mget <| w_var rfl ⟨_, _, rfl, h, eqKd hk hx ⟨_, rfl, k _ .refl⟩⟩⟩
theorem suits_spec {tm : Tm} {kd : Kd} {v : Vl} {x : Int} (hk : kd.ok) (hv : kd.okv v) (hn : ∀ w, tm ≠ .no w) : Tells F_suits [.str tm.w, kd.k] (.bl (act tm kd v x).isSome) := by
  cases tm with
  | write =>
    have e : (act .write kd v x).isSome = kd.num := by unfold act; cases kd.num <;> rfl
    rw [e]; exact suits_write hk
  | add =>
    have e : (act .add kd v x).isSome = kd.among ["sum"] := by cases kd <;> cases v <;> first | rfl | exact hv.elim | (show false = _; decide +kernel) | (show true = _; decide +kernel)
    rw [e]; exact suits_only hk (by kernel_rfl) (by decide +kernel) (by decide +kernel)
  | put =>
    have e : (act .put kd v x).isSome = kd.among ["set"] := by cases kd <;> cases v <;> first | rfl | exact hv.elim | (show false = _; decide +kernel) | (show true = _; decide +kernel)
    rw [e]; exact suits_only hk (by kernel_rfl) (by decide +kernel) (by decide +kernel)
  | take =>
    have e : (act .take kd v x).isSome = kd.among ["set"] := by cases kd <;> cases v <;> first | rfl | exact hv.elim | (show false = _; decide +kernel) | (show true = _; decide +kernel)
    rw [e]; exact suits_only hk (by kernel_rfl) (by decide +kernel) (by decide +kernel)
  | row =>
    have e : (act .row kd v x).isSome = kd.among ["list"] := by cases kd <;> cases v <;> first | rfl | exact hv.elim | (show false = _; decide +kernel) | (show true = _; decide +kernel)
    rw [e]; exact suits_only hk (by kernel_rfl) (by decide +kernel) (by decide +kernel)
  | no w => exact absurd rfl (hn w)
/-- whether the change is refused -/
theorem cond_spec {tm : Tm} {kd : Kd} {v : Vl} {x : Int} {m : M} (ht : tm.ok) (hk : kd.ok) (hv : kd.okv v) : W (cOrT (cB (c2 fNin (cVar 2) (cC (.tup [.str "write", .str "add", .str "put", .str "take", .str "row"])))) (cNotT (cTru (cCall F_suits (cCons (cVar 2) (cCons (cVar 0) cNil))))) [some kd.k, some v.d, some (.str tm.w), some (.int x)] m)
    fun b m1 => b = (act tm kd v x).isNone ∧ Kp [] m m1 := by
  have key : (∀ w, tm ≠ .no w) → fNin (.str tm.w) (.tup [.str "write", .str "add", .str "put", .str "take", .str "row"]) m = some (.bl false, m) → W (cOrT (cB (c2 fNin (cVar 2) (cC (.tup [.str "write", .str "add", .str "put", .str "take", .str "row"])))) (cNotT (cTru (cCall F_suits (cCons (cVar 2) (cCons (cVar 0) cNil))))) [some kd.k, some v.d, some (.str tm.w), some (.int x)] m)
      fun b m1 => b = (act tm kd v x).isNone ∧ Kp [] m m1 := fun hn e => by
    refine w_orF <| w_B <| w_c2 <| w_var rfl <| w_c ⟨_, _, e, ⟨_, rfl, rfl, ?_⟩⟩
    refine w_notT <| w_tru <| w_call <| w_cons <| w_var rfl <| w_cons <| w_var rfl <| w_nil ?_
    refine suits_spec (v := v) (x := x) hk hv hn _ _ fun m1 K1 => ⟨_, rfl, ?_, K1⟩
    cases act tm kd v x <;> rfl
  cases tm with
  | write => exact key (fun _ z => nomatch z) (by kernel_rfl)
  | add => exact key (fun _ z => nomatch z) (by kernel_rfl)
  | put => exact key (fun _ z => nomatch z) (by kernel_rfl)
  | take => exact key (fun _ z => nomatch z) (by kernel_rfl)
  | row => exact key (fun _ z => nomatch z) (by kernel_rfl)
  | no w =>
    obtain ⟨h1, h2, h3, h4, h5⟩ := ht
    refine w_orTt <| w_B <| w_c2 <| w_var rfl <| w_c ?_
    refine w_ninT (es := (["write", "add", "put", "take", "row"] : List Str).map D.str) (by rw [flat_strs]; rfl) ?_
    rw [any_strs]
    have e : ((["write", "add", "put", "take", "row"] : List Str).any fun y => y == w) = false := by
      simp only [List.any_cons, List.any_nil, Bool.or_false, Bool.or_eq_false_iff, beq_eq_false_iff_ne, ne_eq]
      exact ⟨fun z => h1 z.symm, fun z => h2 z.symm, fun z => h3 z.symm, fun z => h4 z.symm, fun z => h5 z.symm⟩
    show ∃ b, D.bl (!((["write", "add", "put", "take", "row"] : List Str).any fun y => y == w)) = .bl b ∧ b = true ∧ true = true ∧ Kp [] m m
    rw [e]
    exact ⟨_, rfl, rfl, rfl, .refl⟩
theorem without_tells {ns : List Int} {x : Int} (hl : ns.length ≤ 100) : Tells F_without_number [.tup (ns.map D.int), .int x] (.tup ((takeL ns x).map D.int)) := fun m P k => by
  refine w_run ?_
  unfold c_without_number
  refine w_ret <| w_call <| w_cons <| w_lcT <| w_var rfl ⟨_, rfl, by rw [List.length_map]; exact Nat.le_trans hl (by decide), ?_⟩
  refine lc_filter (p := fun y => !decide (y = x)) (fun y m => ⟨_, rfl, w_B <| w_c2 <| w_var rfl <| w_var rfl <| w_neI ⟨_, rfl, rfl, rfl⟩, w_var rfl ⟨rfl, rfl⟩⟩) ns _ ?_
  exact w_nil <| w_tupL at_last ⟨_, rfl, k _ (.push _)⟩
theorem with_tells {ns : List Int} {x : Int} (hl : ns.length ≤ 40) : Tells F_with_number [.tup (ns.map D.int), .int x] (.tup ((putL ns x).map D.int)) := fun m P k => by
  refine w_run ?_
  unfold c_with_number
  refine w_sAsg <| w_call <| w_cons <| w_var rfl <| w_cons <| w_var rfl <| w_nil ?_
  refine without_tells (by omega) _ _ fun m1 K1 => ?_
  have lf : (takeL ns x).length ≤ ns.length := List.length_filter_le ..
  refine w_ret <| w_call <| w_cons <| w_call <| w_cons <| w_lst <| w_star <| w_var rfl ⟨_, rfl, w_cons <| w_var rfl <| w_nil ⟨?_, w_nil ?_⟩⟩
  · rw [List.length_append, List.length_map]; exact Nat.le_trans (m := 41) (by simp; omega) (by decide)
  refine w_sortL (ns := takeL ns x ++ [x]) (by rw [List.map_append]; exact at_last) (by rw [List.length_append]; simp; omega) <| w_nil ?_
  exact w_tupL at_last ⟨_, rfl, k _ ((K1.trans (.push _)).trans (.push _))⟩
theorem changed_ok {tm : Tm} {kd : Kd} {v u : Vl} {x : Int} (ht : tm.ok) (hk : kd.ok) (hv : kd.okv v) (h : act tm kd v x = some u) : Tells F_changed [kd.k, v.d, .str tm.w, .int x] u.d := fun m P k => by
  refine w_run ?_
  unfold c_changed
  refine w_ifF <| (cond_spec (x := x) ht hk hv).mono fun b m1 ⟨e, K1⟩ => ⟨by rw [e, h]; rfl, w_sNext ?_⟩
  cases tm with
  | write =>
    have h : (if kd.num = true then some (Vl.n x) else none) = some u := h
    split at h
    · cases h
      exact w_ifT <| w_B <| w_c2 <| w_var rfl <| w_c <| w_eqT ⟨_, rfl, rfl, w_sRet <| w_var rfl ⟨_, rfl, k _ K1⟩⟩
    · cases h
  | add =>
    cases kd <;> cases v <;> first | exact hv.elim | cases h
    refine w_ifF <| w_B <| w_c2 <| w_var rfl <| w_c <| w_eqF (by decide +kernel) ⟨_, rfl, rfl, ?_⟩
    refine w_sNext <| w_ifT <| w_B <| w_c2 <| w_var rfl <| w_c <| w_eqT ⟨_, rfl, rfl, ?_⟩
    exact w_sRet <| w_c2 <| w_var rfl <| w_var rfl <| w_addI ⟨_, rfl, k _ K1⟩
  | put =>
    cases kd <;> cases v <;> first | exact hv.elim | cases h
    rename_i ns _
    have lf := okS_few (show OkS ns from hv)
    refine w_ifF <| w_B <| w_c2 <| w_var rfl <| w_c <| w_eqF (by decide +kernel) ⟨_, rfl, rfl, ?_⟩
    refine w_sNext <| w_ifF <| w_B <| w_c2 <| w_var rfl <| w_c <| w_eqF (by decide +kernel) ⟨_, rfl, rfl, ?_⟩
    refine w_sNext <| w_ifT <| w_B <| w_c2 <| w_var rfl <| w_c <| w_eqT ⟨_, rfl, rfl, ?_⟩
    refine w_sRet <| w_call <| w_cons <| w_var rfl <| w_cons <| w_var rfl <| w_nil ?_
    exact with_tells (by omega) _ _ fun m2 K2 => ⟨_, rfl, k _ (K1.trans K2)⟩
  | take =>
    cases kd <;> cases v <;> first | exact hv.elim | cases h
    rename_i ns _
    have lf := okS_few (show OkS ns from hv)
    refine w_ifF <| w_B <| w_c2 <| w_var rfl <| w_c <| w_eqF (by decide +kernel) ⟨_, rfl, rfl, ?_⟩
    refine w_sNext <| w_ifF <| w_B <| w_c2 <| w_var rfl <| w_c <| w_eqF (by decide +kernel) ⟨_, rfl, rfl, ?_⟩
    refine w_sNext <| w_ifF <| w_B <| w_c2 <| w_var rfl <| w_c <| w_eqF (by decide +kernel) ⟨_, rfl, rfl, ?_⟩
    refine w_sNext <| w_ifT <| w_B <| w_c2 <| w_var rfl <| w_c <| w_eqT ⟨_, rfl, rfl, ?_⟩
    refine w_sRet <| w_call <| w_cons <| w_var rfl <| w_cons <| w_var rfl <| w_nil ?_
    exact without_tells (by omega) _ _ fun m2 K2 => ⟨_, rfl, k _ (K1.trans K2)⟩
  | row =>
    cases kd <;> cases v <;> first | exact hv.elim | cases h
    rename_i ns _
    have hv : OkL ns := hv
    refine w_ifF <| w_B <| w_c2 <| w_var rfl <| w_c <| w_eqF (by decide +kernel) ⟨_, rfl, rfl, ?_⟩
    refine w_sNext <| w_ifF <| w_B <| w_c2 <| w_var rfl <| w_c <| w_eqF (by decide +kernel) ⟨_, rfl, rfl, ?_⟩
    refine w_sNext <| w_ifF <| w_B <| w_c2 <| w_var rfl <| w_c <| w_eqF (by decide +kernel) ⟨_, rfl, rfl, ?_⟩
    refine w_sNext <| w_ifF <| w_B <| w_c2 <| w_var rfl <| w_c <| w_eqF (by decide +kernel) ⟨_, rfl, rfl, ?_⟩
    refine w_sNext <| w_ret <| w_tup <| w_star <| w_var rfl ⟨_, rfl, w_cons <| w_var rfl <| w_nil ⟨?_, _, rfl, ?_⟩⟩
    · rw [List.length_append, List.length_map]; exact Nat.le_trans (m := 41) (by have := hv.1; simp; omega) (by decide)
    · have := k _ K1
      rw [show (Vl.t (ns ++ [x])).d = .tup (ns.map D.int ++ [.int x]) by show D.tup ((ns ++ [x]).map D.int) = _; rw [List.map_append]; rfl] at this
      exact this
  | no w => cases h
/-- the change is refused: nothing comes, an error does -/
theorem changed_no {tm : Tm} {kd : Kd} {v : Vl} {x : Int} {m : M} (ht : tm.ok) (hk : kd.ok) (hv : kd.okv v) (h : act tm kd v x = none) :
    ∃ m1, Kp [] m m1 ∧ F_changed [kd.k, v.d, .str tm.w, .int x] m = none ∧ R_changed [kd.k, v.d, .str tm.w, .int x] m = some (.ref m1.length, m1 ++ [.exc "NoStep" [("word", .str tm.w)]]) := by
  obtain ⟨b, m1, e, hb, K1⟩ := cond_spec (x := x) (m := m) ht hk hv
  rw [h] at hb
  have hb : b = true := hb
  subst hb
  refine ⟨m1, K1, n_run ?_, ?_⟩
  · unfold c_changed
    exact n_seq1 (n_ifT ⟨_, _, e, rfl, n_never⟩)
  · show r_changed _ m = _
    unfold r_changed rIf
    show (Option.bind (cOrT _ _ [some kd.k, some v.d, some (.str tm.w), some (.int x)] m) _) = _
    rw [e]
    rfl

end Law

set_option Elab.async false
set_option linter.all false
set_option maxRecDepth 100000
set_option maxHeartbeats 40000000
set_option exponentiation.threshold 3000
namespace Law
open PySem L2 L3
def dueD : Option Vl → D
  | some u => u.d
  | none => .non
section
variable {ρ : En} {m : M} {R : Fl → M → Prop}
theorem skip {t w0 : Str} {b : CT} {a r : CS} (h2 : ρ[2]? = some (some (.str t))) (hne : ¬ t = w0) (k : W (r ρ m) R) : W (cSeq (cIfS (cAndT (cB (c2 fEq (cVar 2) (cC (.str w0)))) b) a cNext) r ρ m) R :=
  w_ifF <| w_andF <| w_B <| w_c2 <| w_var h2 <| w_c <| w_eqF hne ⟨_, rfl, rfl, rfl, w_sNext k⟩
theorem hit {w0 : Str} {b : CT} {a r : CS} (h2 : ρ[2]? = some (some (.str w0))) (k : W (b ρ m) fun x m1 => (x = true → W (cSeq a r ρ m1) R) ∧ (x = false → W (r ρ m1) R)) : W (cSeq (cIfS (cAndT (cB (c2 fEq (cVar 2) (cC (.str w0)))) b) a cNext) r ρ m) R :=
  w_sIf <| w_andG <| w_B <| w_c2 <| w_var h2 <| w_c <| w_eqT ⟨_, rfl, rfl, k.mono fun x m1 ⟨h1, h2⟩ => ⟨h1, fun z => w_sNext (h2 z)⟩⟩
end
theorem put_eq {ns : List Int} {x : Int} (h : ns.Pairwise (· < ·)) : (ns.filter fun y => decide (y < x)) ++ [x] ++ (ns.filter fun y => decide (y > x)) = putL ns x := by
  have nd : ns.Nodup := h.imp fun h => by omega
  refine eq_of_mem ?_ (srt_lt ?_) fun j => ?_
  · rw [List.append_assoc, List.pairwise_append]
    refine ⟨h.filter _, ?_, fun a ha b hb => ?_⟩
    · rw [List.singleton_append, List.pairwise_cons]
      exact ⟨fun b hb => of_decide_eq_true (List.mem_filter.mp hb).2, h.filter _⟩
    · have ha : a < x := of_decide_eq_true (List.mem_filter.mp ha).2
      rcases List.mem_append.mp hb with hb | hb
      · rw [List.mem_singleton.mp hb]; exact ha
      · have : x < b := of_decide_eq_true (List.mem_filter.mp hb).2
        omega
  · rw [List.nodup_append]
    refine ⟨nd.filter _, by simp, fun a ha b hb => ?_⟩
    rw [List.mem_singleton.mp hb]
    have := (List.mem_filter.mp ha).2
    simpa using this
  · unfold putL
    rw [srt_mem]
    simp only [List.mem_append, List.mem_filter, List.mem_singleton, decide_eq_true_eq, Bool.not_eq_true', decide_eq_false_iff_not]
    constructor
    · rintro ((⟨h1, h2⟩ | h1) | ⟨h1, h2⟩)
      · exact .inl ⟨h1, by omega⟩
      · exact .inr h1
      · exact .inl ⟨h1, by omega⟩
    · rintro (⟨h1, h2⟩ | h1)
      · rcases Int.lt_or_gt_of_ne h2 with h3 | h3
        · exact .inl (.inl ⟨h1, h3⟩)
        · exact .inr ⟨h1, h3⟩
      · exact .inl (.inr h1)
theorem take_eq {ns : List Int} {x : Int} (h : ns.Pairwise (· < ·)) : (ns.filter fun y => decide (y < x)) ++ (ns.filter fun y => decide (y > x)) = takeL ns x := by
  refine eq_of_mem ?_ (h.filter _) fun j => ?_
  · rw [List.pairwise_append]
    refine ⟨h.filter _, h.filter _, fun a ha b hb => ?_⟩
    have ha : a < x := of_decide_eq_true (List.mem_filter.mp ha).2
    have : x < b := of_decide_eq_true (List.mem_filter.mp hb).2
    omega
  · unfold takeL
    simp only [List.mem_append, List.mem_filter, decide_eq_true_eq, Bool.not_eq_true', decide_eq_false_iff_not]
    constructor
    · rintro (⟨h1, h2⟩ | ⟨h1, h2⟩)
      · exact ⟨h1, by omega⟩
      · exact ⟨h1, by omega⟩
    · rintro ⟨h1, h2⟩
      rcases Int.lt_or_gt_of_ne h2 with h3 | h3
      · exact .inl ⟨h1, h3⟩
      · exact .inr ⟨h1, h3⟩
theorem due_spec {tm : Tm} {kd : Kd} {v : Vl} {x : Int} (ht : tm.ok) (hk : kd.ok) (hv : kd.okv v) : Tells F__law_due [kd.k, v.d, .str tm.w, .int x] (dueD (act tm kd v x)) := fun m P k => by
  refine w_run ?_
  unfold c__law_due
  have last : ∀ {m1 : M}, ¬ tm.w = "row" → act tm kd v x = none → Kp [] m m1 → W (cRet (cIf (cAndT (cB (c2 fEq (cVar 2) (cC (.str "row")))) (cB (c2 fEq (cVar 0) (cC (.str "list"))))) (cCall (f1 tupleD) (cCons (c2 fAdd (cCall (f1 listD) (cCons (cVar 1) cNil)) (cLst (cCons (cVar 3) cNil))) cNil)) (cC .non)) [some kd.k, some v.d, some (.str tm.w), some (.int x), none] m1) fun f m1 => ∃ d, f = .rt d ∧ P d m1 := fun hr hn K1 => by
    have := k _ K1
    rw [hn] at this
    exact w_ret <| w_if <| w_andF <| w_B <| w_c2 <| w_var rfl <| w_c <| w_eqF hr ⟨_, rfl, rfl, (fun z => nomatch z), fun _ => w_c ⟨_, rfl, this⟩⟩
  have no : act tm kd v x = none → ∀ {m1 : M}, Kp [] m m1 → P .non m1 := fun hn m1 K1 => by
    have := k _ K1
    rw [hn] at this
    exact this
  have yes : ∀ {u : Vl}, act tm kd v x = some u → ∀ {m1 : M}, Kp [] m m1 → P u.d m1 := fun hn m1 K1 => by
    have := k _ K1
    rw [hn] at this
    exact this
  have two : ∀ {w : Str} {m1 : M} {Q : Bool → M → Prop}, PyData.strOk w = true → Q (kd.among [w]) m1 → W (cB (c2 fEq (cVar 0) (cC (.str w))) [some kd.k, some v.d, some (.str tm.w), some (.int x), none] m1) Q := fun hw q =>
    w_B <| w_c2 <| w_var rfl <| w_c <| eqKd hk hw ⟨_, rfl, q⟩
  cases tm with
  | write =>
    refine hit rfl <| w_B <| w_c2 <| w_var rfl <| w_tup <| w_cons <| w_c <| w_cons <| w_c <| w_nil ⟨le_sz, ninK (kd := kd) (ws := ["set", "list"]) hk (by decide +kernel) ?_⟩
    rw [among_sl kd]
    refine ⟨_, rfl, fun h => ?_, fun h => ?_⟩
    · exact w_sRet <| w_var rfl ⟨_, rfl, yes (u := .n x) (by unfold act; exact if_pos h) .refl⟩
    · refine skip rfl (by decide +kernel) <| skip rfl (by decide +kernel) <| skip rfl (by decide +kernel) <| last (by decide +kernel) ?_ .refl
      show (if kd.num = true then some (Vl.n x) else none) = none
      rw [h]; rfl
  | add =>
    refine skip rfl (by decide +kernel) <| hit rfl <| two (by decide +kernel) ⟨fun h => ?_, fun h => ?_⟩
    · cases kd <;> first | (exfalso; revert h; show ¬ (_ = true); decide +kernel) | skip
      · cases v with
        | t _ => exact hv.elim
        | n i =>
          refine w_sRet <| w_c2 <| w_var rfl <| w_c2 <| w_c <| w_var rfl <| w_sub <| w_sub ⟨_, rfl, ?_⟩
          have := yes (u := .n (i + x)) rfl .refl
          rw [show i - (0 - x) = i + x by omega]
          exact this
      all_goals cases h
    · refine skip rfl (by decide +kernel) <| skip rfl (by decide +kernel) <| last (by decide +kernel) ?_ .refl
      cases kd <;> cases v <;> first | rfl | exact hv.elim | (exfalso; revert h; show ¬ (_ = false); decide +kernel)
  | put =>
    refine skip rfl (by decide +kernel) <| skip rfl (by decide +kernel) <| hit rfl <| two (by decide +kernel) ⟨fun h => ?_, fun h => ?_⟩
    · cases kd <;> first | (exfalso; revert h; show ¬ (_ = true); decide +kernel) | skip
      · cases v with
        | n _ => exact hv.elim
        | t ns =>
          have hs : OkS ns := hv
          have lf := okS_few hs
          have l1 : (ns.filter fun y => decide (y < x)).length ≤ ns.length := List.length_filter_le ..
          have l2 : (ns.filter fun y => decide (y > x)).length ≤ ns.length := List.length_filter_le ..
          refine w_sRet <| w_call <| w_cons <| w_c2 <| w_c2 <| w_lcT <| w_var rfl ⟨_, rfl, by rw [List.length_map]; exact Nat.le_trans (m := 12) lf (by decide), ?_⟩
          refine lc_filter (p := fun y => decide (y < x)) (fun y m => ⟨_, rfl, w_B <| w_c2 <| w_var rfl <| w_var rfl <| w_lt ⟨_, rfl, rfl, rfl⟩, w_var rfl ⟨rfl, rfl⟩⟩) ns _ ?_
          refine w_lst <| w_cons <| w_var rfl <| w_nil ⟨le_sz, ?_⟩
          refine w_addL at_prev at_last ?_ ?_
          · rw [List.length_append, List.length_map]; exact Nat.le_trans (m := 13) (by simp; omega) (by decide)
          refine w_lcT <| w_var rfl ⟨_, rfl, by rw [List.length_map]; exact Nat.le_trans (m := 12) lf (by decide), ?_⟩
          refine lc_filter (p := fun y => decide (y > x)) (fun y m => ⟨_, rfl, w_B <| w_c2 <| w_var rfl <| w_var rfl <| w_gt ⟨_, rfl, rfl, rfl⟩, w_var rfl ⟨rfl, rfl⟩⟩) ns _ ?_
          refine w_addL at_prev at_last ?_ ?_
          · rw [List.length_append, List.length_append, List.length_map, List.length_map]; exact Nat.le_trans (m := 25) (by show _ + 1 + _ ≤ 25; omega) (by decide)
          refine w_nil <| w_tupL at_last ⟨_, rfl, ?_⟩
          have e : (Vl.t (putL ns x)).d = .tup ((ns.filter fun y => decide (y < x)).map D.int ++ [.int x] ++ (ns.filter fun y => decide (y > x)).map D.int) := by rw [← put_eq hs.1]; show D.tup (List.map D.int _) = _; rw [List.map_append, List.map_append]; rfl
          rw [← e]
          exact yes rfl (Kp.trans (Kp.trans (Kp.trans (Kp.trans (.push _) (.push _)) (.push _)) (.push _)) (.push _))
      all_goals cases h
    · refine skip rfl (by decide +kernel) <| last (by decide +kernel) ?_ .refl
      cases kd <;> cases v <;> first | rfl | exact hv.elim | (exfalso; revert h; show ¬ (_ = false); decide +kernel)
  | take =>
    refine skip rfl (by decide +kernel) <| skip rfl (by decide +kernel) <| skip rfl (by decide +kernel) <| hit rfl <| two (by decide +kernel) ⟨fun h => ?_, fun h => ?_⟩
    · cases kd <;> first | (exfalso; revert h; show ¬ (_ = true); decide +kernel) | skip
      · cases v with
        | n _ => exact hv.elim
        | t ns =>
          have hs : OkS ns := hv
          have lf := okS_few hs
          have l1 : (ns.filter fun y => decide (y < x)).length ≤ ns.length := List.length_filter_le ..
          have l2 : (ns.filter fun y => decide (y > x)).length ≤ ns.length := List.length_filter_le ..
          refine w_sRet <| w_call <| w_cons <| w_c2 <| w_lcT <| w_var rfl ⟨_, rfl, by rw [List.length_map]; exact Nat.le_trans (m := 12) lf (by decide), ?_⟩
          refine lc_filter (p := fun y => decide (y < x)) (fun y m => ⟨_, rfl, w_B <| w_c2 <| w_var rfl <| w_var rfl <| w_lt ⟨_, rfl, rfl, rfl⟩, w_var rfl ⟨rfl, rfl⟩⟩) ns _ ?_
          refine w_lcT <| w_var rfl ⟨_, rfl, by rw [List.length_map]; exact Nat.le_trans (m := 12) lf (by decide), ?_⟩
          refine lc_filter (p := fun y => decide (y > x)) (fun y m => ⟨_, rfl, w_B <| w_c2 <| w_var rfl <| w_var rfl <| w_gt ⟨_, rfl, rfl, rfl⟩, w_var rfl ⟨rfl, rfl⟩⟩) ns _ ?_
          refine w_addL at_prev at_last ?_ ?_
          · rw [List.length_append, List.length_map, List.length_map]; exact Nat.le_trans (m := 24) (by omega) (by decide)
          refine w_nil <| w_tupL at_last ⟨_, rfl, ?_⟩
          have e : (Vl.t (takeL ns x)).d = .tup ((ns.filter fun y => decide (y < x)).map D.int ++ (ns.filter fun y => decide (y > x)).map D.int) := by rw [← take_eq hs.1]; show D.tup (List.map D.int _) = _; rw [List.map_append]
          rw [← e]
          exact yes rfl (Kp.trans (Kp.trans (.push _) (.push _)) (.push _))
      all_goals cases h
    · refine last (by decide +kernel) ?_ .refl
      cases kd <;> cases v <;> first | rfl | exact hv.elim | (exfalso; revert h; show ¬ (_ = false); decide +kernel)
  | row =>
    refine skip rfl (by decide +kernel) <| skip rfl (by decide +kernel) <| skip rfl (by decide +kernel) <| skip rfl (by decide +kernel) ?_
    refine w_ret <| w_if <| w_andG <| w_B <| w_c2 <| w_var rfl <| w_c <| w_eqT ⟨_, rfl, rfl, two (by decide +kernel) ⟨fun h => ?_, fun h => ?_⟩⟩
    · cases kd <;> first | (exfalso; revert h; show ¬ (_ = true); decide +kernel) | skip
      · cases v with
        | n _ => exact hv.elim
        | t ns =>
          have hs : OkL ns := hv
          refine w_call <| w_cons <| w_c2 <| w_call <| w_cons <| w_var rfl <| w_nil <| w_listT <| w_lst <| w_cons <| w_var rfl <| w_nil ⟨le_sz, ?_⟩
          refine w_addL at_prev at_last ?_ ?_
          · rw [List.length_append, List.length_map]; exact Nat.le_trans (m := 41) (by have := hs.1; simp; omega) (by decide)
          refine w_nil <| w_tupL at_last ⟨_, rfl, ?_⟩
          have e : (Vl.t (ns ++ [x])).d = .tup (ns.map D.int ++ [.int x]) := by show D.tup ((ns ++ [x]).map D.int) = _; rw [List.map_append]; rfl
          rw [← e]
          exact yes rfl (Kp.trans (Kp.trans (.push _) (.push _)) (.push _))
      all_goals cases h
    · refine w_c ⟨_, rfl, no ?_ .refl⟩
      cases kd <;> cases v <;> first | rfl | exact hv.elim | (exfalso; revert h; show ¬ (_ = false); decide +kernel)
  | no w =>
    obtain ⟨h1, h2, h3, h4, h5⟩ := ht
    exact skip rfl h1 <| skip rfl h2 <| skip rfl h3 <| skip rfl h4 <| last h5 rfl .refl
/-- what the law tells of the program's change -/
def toldD (tm : Tm) : Option Vl → D
  | some u => .tup [.str "told", u.d]
  | none => .tup [.str "no", .str tm.w]
theorem told_spec {tm : Tm} {kd : Kd} {v : Vl} {x : Int} (ht : tm.ok) (hk : kd.ok) (hv : kd.okv v) : Tells F__law_told [kd.k, v.d, .str tm.w, .int x] (toldD tm (act tm kd v x)) := fun m P k => by
  refine w_run ?_
  unfold c__law_told
  cases h : act tm kd v x with
  | some u =>
    have k' : ∀ m', Kp [] m m' → P (.tup [.str "told", u.d]) m' := fun m' K => by have := k m' K; rw [h] at this; exact this
    refine w_seqG <| w_tryOk <| w_ret <| w_tup <| w_cons <| w_c <| w_cons <| w_callK <| w_cons <| w_var rfl <| w_cons <| w_var rfl <| w_nil <| w_cons <| w_var rfl <| w_cons <| w_var rfl <| w_nil ⟨rfl, ?_⟩
    exact changed_ok ht hk hv h _ _ fun m1 K1 => w_nil ⟨le_sz, _, rfl, k' _ K1⟩
  | none =>
    have k' : ∀ m', Kp [] m m' → P (.tup [.str "no", .str tm.w]) m' := fun m' K => by have := k m' K; rw [h] at this; exact this
    obtain ⟨m1, K1, hF, hR⟩ := changed_no (m := m) ht hk hv h
    refine w_seqG <| w_tryNo ?_ ?_
    · refine n_ret <| n_tup <| n_cons2 <| w_c <| n_cons1 <| n_callK <| w_cons <| w_var rfl <| w_cons <| w_var rfl <| w_nil <| w_cons <| w_var rfl <| w_cons <| w_var rfl <| w_nil hF
    refine w_rThen <| w_c <| w_callK <| w_cons <| w_var rfl <| w_cons <| w_var rfl <| w_nil <| w_cons <| w_var rfl <| w_cons <| w_var rfl <| w_nil ⟨rfl, _, _, hR, ?_⟩
    refine w_hC1 excD_last (by decide +kernel) ?_
    refine w_ifS <| w_andG <| w_tru <| w_isX <| w_var rfl ⟨_, _, true, excD_last, by decide +kernel, _, rfl, rfl, ?_⟩
    refine w_notT <| w_tru <| w_isT <| w_var rfl ⟨_, _, false, excD_last, by decide +kernel, by decide +kernel, _, rfl, (fun _ => ?_), fun z => nomatch z⟩
    refine w_ret <| w_tup <| w_cons <| w_c <| w_cons <| w_xfld <| w_var rfl ⟨_, _, _, excD_last, by decide +kernel, rfl, w_nil ⟨le_sz, _, rfl, k' _ (K1.trans (.push _))⟩⟩

end Law

set_option Elab.async false
set_option linter.all false
set_option maxRecDepth 100000
set_option maxHeartbeats 40000000
set_option exponentiation.threshold 3000
namespace Law
open PySem L2 L3
theorem feed_kp {f : Nat} {m m' : M} (h : Feed (fun _ => none) [f] m f) (K : Kp [] m m') : Feed (fun _ => none) [f] m' f := by
  obtain ⟨c, cells, a, l, q, X, ha, hl⟩ := h
  exact ⟨c, cells, a, l, q, ⟨K.at X.hf (by simp), K.at X.hc (by simp), X.nS, X.fS, fun i hi => Nat.lt_of_lt_of_le (X.lt i hi) K.len, fun i hi hn => absurd (List.mem_singleton.mp hi) hn⟩, ha, hl⟩
theorem kp_up {S : List Nat} {m m' : M} (K : Kp [] m m') : Kp S m m' := ⟨K.len, fun i h _ => K.keep i h (by simp)⟩
theorem putL_mem {ns : List Int} {x y : Int} (h : y ∈ putL ns x) : y ∈ ns ∨ y = x := by
  have h := (srt_mem _ y).mp h
  rcases List.mem_append.mp h with h | h
  · exact .inl (List.mem_filter.mp h).1
  · exact .inr (List.mem_singleton.mp h)
theorem act_bd {tm : Tm} {kd : Kd} {v u : Vl} {x : Int} (hk : kd.ok) (hv : kd.okv v) (hx : x.natAbs < 10 ^ 60) (h : act tm kd v x = some u) : Bd u := by
  have hx' : x.natAbs < BB := Nat.lt_trans hx (by decide)
  cases tm with
  | write =>
    have h : (if kd.num = true then some (Vl.n x) else none) = some u := h
    split at h
    · cases h; exact hx'
    · cases h
  | add =>
    cases kd <;> cases v <;> first | exact hv.elim | cases h
    rename_i i
    have hi : i.natAbs < 10 ^ 60 := hv
    show (i + x).natAbs < BB
    exact Nat.lt_of_le_of_lt (m := 2 * 10 ^ 60) (by omega) (by decide)
  | put =>
    cases kd <;> cases v <;> first | exact hv.elim | cases h
    rename_i ns
    have hv : OkS ns := hv
    have lf := okS_few hv
    refine ⟨?_, fun y hy => ?_⟩
    · unfold putL
      rw [(srt_perm _).length_eq, List.length_append]
      have : (ns.filter fun y => !decide (y = x)).length ≤ ns.length := List.length_filter_le ..
      simp; omega
    · rcases putL_mem hy with h | h
      · have := hv.2 y h
        exact Nat.lt_of_le_of_lt (m := 10) (by omega) (by decide)
      · rw [h]; exact hx'
  | take =>
    cases kd <;> cases v <;> first | exact hv.elim | cases h
    rename_i ns
    have hv : OkS ns := hv
    have lf := okS_few hv
    refine Bd.sml ?_ fun y hy => hv.2 y (List.mem_filter.mp hy).1
    have : (takeL ns x).length ≤ ns.length := List.length_filter_le ..
    omega
  | row =>
    cases kd <;> cases v <;> first | exact hv.elim | cases h
    rename_i ns
    have hv : OkL ns := hv
    refine ⟨by rw [List.length_append]; have := hv.1; simp; omega, fun y hy => ?_⟩
    rcases List.mem_append.mp hy with h | h
    · have := hv.2 y h
      exact Nat.lt_of_le_of_lt (m := 10) (by omega) (by decide)
    · rw [List.mem_singleton.mp h]; exact hx'
  | no w => cases h
def Tm.sm (tm : Tm) : Prop := Gb BB (.str tm.w) 0 1000
theorem told_rpr {tm : Tm} {o : Option Vl} (ht : tm.sm) (ho : ∀ u, o = some u → Bd u) : ∃ z : Str, ∀ (m : M) (P : D → M → Prop), P (.str z) m → W (f1 rprD [toldD tm o] m) P := by
  cases o with
  | some u =>
    have gs : Gb BB (.str "told") 0 1000 := ⟨by decide +kernel, by decide +kernel, by decide +kernel⟩
    exact ⟨_, fun m P k => w_rprT (w_repr (B := BB) (S := []) (l := 200000) (k := 10) (by decide) (.tup (.cons (.str _) (.cons u.rp .nil))) ((Gb.tup (Gbs.cons gs (Gbs.one (ho u rfl).gb))).mono (by omega) (by omega)) (by decide) (by decide) (.inl ⟨_, rfl⟩) k)⟩
  | none =>
    have gs : Gb BB (.str "no") 0 1000 := ⟨by decide +kernel, by decide +kernel, by decide +kernel⟩
    exact ⟨_, fun m P k => w_rprT (w_repr (B := BB) (S := []) (l := 200000) (k := 10) (by decide) (.tup (.cons (.str _) (.cons (.str _) .nil))) ((Gb.tup (Gbs.cons gs (Gbs.one ht))).mono (by omega) (by omega)) (by decide) (by decide) (.inl ⟨_, rfl⟩) k)⟩
theorem both_rpr {kd : Kd} {v : Vl} (hk : kd.ok) (hv : Bd v) : ∃ z : Str, ∀ (m : M) (P : D → M → Prop), P (.str z) m → W (f1 rprD [.tup [kd.k, v.d]] m) P :=
  ⟨_, fun m P k => w_rprT (w_repr (B := BB) (S := []) (l := 200000) (k := 10) (by decide) (.tup (.cons kd.rp (.cons v.rp .nil))) ((Gb.tup (Gbs.cons (Kd.gb hk) (Gbs.one hv.gb))).mono (by omega) (by omega)) (by decide) (by decide) (.inl ⟨_, rfl⟩) k)⟩
/-- a word that is tried -/
theorem term_turn {tm : Tm} {kd : Kd} {v : Vl} {x : Int} {m : M} {s0 s1 s2 s5 s6 s9 s10 s11 : Option D} (ht : tm.ok) (hs : tm.sm) (hk : kd.ok) (hv : kd.okv v) (hx : x.natAbs < 10 ^ 60) :
    W ((cSeq (cAsg (cCall F__law_due (cCons (cVar 3) (cCons (cVar 4) (cCons (cVar 8) (cCons (cVar 7) cNil))))) (gSet 10))
    (cSeq (cAsg (cIf (cB (c2 fIsN (cVar 10) (cC .non))) (cTup (cCons (cC (.str "no")) (cCons (cVar 8) cNil))) (cTup (cCons (cC (.str "told")) (cCons (cVar 10) cNil)))) (gSet 11))
    (cIfS (cB (c2 fNe (cCall (f1 rprD) (cCons (cCall F__law_told (cCons (cVar 3) (cCons (cVar 4) (cCons (cVar 8) (cCons (cVar 7) cNil))))) cNil)) (cCall (f1 rprD) (cCons (cVar 11) cNil)))) (cRet (cC (.bl false))) cNext))) [s0, s1, s2, some kd.k, some v.d, s5, s6, some (.int x), some (.str tm.w), s9, s10, s11] m)
    fun f m1 => ∃ y10 y11, f = .nx [s0, s1, s2, some kd.k, some v.d, s5, s6, some (.int x), some (.str tm.w), s9, y10, y11] ∧ Kp [] m m1 := by
  obtain ⟨z, hz⟩ := told_rpr (tm := tm) (o := act tm kd v x) hs fun u hu => act_bd hk hv hx hu
  refine w_sAsg <| w_call <| w_cons <| w_var rfl <| w_cons <| w_var rfl <| w_cons <| w_var rfl <| w_cons <| w_var rfl <| w_nil ?_
  refine due_spec ht hk hv _ _ fun m1 K1 => ?_
  have fin : ∀ {m2 : M}, Kp [] m m2 → W ((cIfS (cB (c2 fNe (cCall (f1 rprD) (cCons (cCall F__law_told (cCons (cVar 3) (cCons (cVar 4) (cCons (cVar 8) (cCons (cVar 7) cNil))))) cNil)) (cCall (f1 rprD) (cCons (cVar 11) cNil)))) (cRet (cC (.bl false))) cNext) [s0, s1, s2, some kd.k, some v.d, s5, s6, some (.int x), some (.str tm.w), s9, some (dueD (act tm kd v x)), some (toldD tm (act tm kd v x))] m2)
      fun f m1 => ∃ y10 y11, f = .nx [s0, s1, s2, some kd.k, some v.d, s5, s6, some (.int x), some (.str tm.w), s9, y10, y11] ∧ Kp [] m m1 := fun {m2} K2 => by
    refine w_ifS <| w_B <| w_c2 <| w_call <| w_cons <| w_call <| w_cons <| w_var rfl <| w_cons <| w_var rfl <| w_cons <| w_var rfl <| w_cons <| w_var rfl <| w_nil ?_
    refine told_spec ht hk hv _ _ fun m3 K3 => w_nil <| hz _ _ ?_
    refine w_call <| w_cons <| w_var rfl <| w_nil <| hz _ _ ?_
    refine w_neS <| same_ne ?_
    exact w_next ⟨_, _, rfl, K2.trans K3⟩
  refine w_sAsg <| w_if <| w_B <| w_c2 <| w_var rfl <| w_c ?_
  cases h : act tm kd v x with
  | none =>
    rw [h] at fin
    refine w_isN ⟨_, rfl, (fun _ => ?_), fun e => absurd e (by decide)⟩
    exact w_tup <| w_cons <| w_c <| w_cons <| w_var rfl <| w_nil ⟨le_sz, fin K1⟩
  | some u =>
    rw [h] at fin
    have hb : isNon u.d = false := by cases u <;> rfl
    refine w_isN ⟨_, rfl, (fun e => ?_), fun _ => ?_⟩
    · exact absurd (show isNon u.d = true from e) (by rw [hb]; decide)
    · exact w_tup <| w_cons <| w_c <| w_cons <| w_var rfl <| w_nil ⟨le_sz, fin K1⟩

end Law

set_option Elab.async false
set_option linter.all false
set_option maxRecDepth 100000
set_option maxHeartbeats 40000000
set_option exponentiation.threshold 3000
namespace Law
open PySem L2 L3
theorem neTup {m : M} {ns : List Int} {P : D → M → Prop} (h : Bd (.t ns)) (k : P (.bl (!ns.isEmpty)) m) : W (fNe (.tup (ns.map D.int)) (.tup []) m) P := by
  refine ⟨_, _, ?_, k⟩
  have e1 := (Vl.rp (S := []) (m := m) (.t ns)).py PYN (Nat.lt_of_le_of_lt h.gb.d (by decide))
  have s := gd_shaped (by decide) h.gb.g (Nat.le_trans h.gb.d (by decide))
  have e2 : py PYN m (.tup []) = some (.tuple []) := rfl
  show fNeD (Vl.t ns).d (.tup []) m = _
  unfold fNeD
  rw [e1, e2]
  have s2 : SeqAt.shaped (.tuple []) = true := by decide +kernel
  simp only [s, s2, Bool.and_self, if_true]
  cases ns with
  | nil => rfl
  | cons _ _ => rfl
def tms : List Tm := [.write, .add, .put, .take, .row, .no "read", .no "tell", .no "", .no "Write", .no "set"]
theorem tms_ok : ∀ tm ∈ tms, tm.ok ∧ tm.sm := by
  intro tm h
  unfold tms at h
  simp only [List.mem_cons, List.mem_nil_iff, or_false] at h
  rcases h with rfl | rfl | rfl | rfl | rfl | rfl | rfl | rfl | rfl | rfl
  all_goals refine ⟨?_, ⟨by decide +kernel, by decide +kernel, by decide +kernel⟩⟩
  all_goals first | trivial | exact ⟨by decide +kernel, by decide +kernel, by decide +kernel, by decide +kernel, by decide +kernel⟩
theorem fig_turn {kd : Kd} {v : Vl} {x : Int} {m : M} {s0 s1 s2 s5 s6 s8 s9 s10 s11 : Option D} (hk : kd.ok) (hv : kd.okv v) (hx : x.natAbs < 10 ^ 60) :
    W ((cSeq (cFor (iTupD (cTup (cCons (cC (.str "write")) (cCons (cC (.str "add")) (cCons (cC (.str "put")) (cCons (cC (.str "take")) (cCons (cC (.str "row")) (cCons (cC (.str "read")) (cCons (cC (.str "tell")) (cCons (cC (.str "")) (cCons (cC (.str "Write")) (cCons (cC (.str "set")) cNil)))))))))))) (gSet 8) (cSeq (cAsg (cCall F__law_due (cCons (cVar 3) (cCons (cVar 4) (cCons (cVar 8) (cCons (cVar 7) cNil))))) (gSet 10))
    (cSeq (cAsg (cIf (cB (c2 fIsN (cVar 10) (cC .non))) (cTup (cCons (cC (.str "no")) (cCons (cVar 8) cNil))) (cTup (cCons (cC (.str "told")) (cCons (cVar 10) cNil)))) (gSet 11))
    (cIfS (cB (c2 fNe (cCall (f1 rprD) (cCons (cCall F__law_told (cCons (cVar 3) (cCons (cVar 4) (cCons (cVar 8) (cCons (cVar 7) cNil))))) cNil)) (cCall (f1 rprD) (cCons (cVar 11) cNil)))) (cRet (cC (.bl false))) cNext))))
    (cIfS (cAndT (cB (c2 fNinX (cVar 3) (cTup (cCons (cC (.str "set")) (cCons (cC (.str "list")) cNil))))) (cB (c2 fNe (cCallK0 4 F_changed (apG 0 4 [2, 1, 3, 0]) (cCons (cVar 7) (cCons (cVar 4) (cCons (cVar 3) (cCons (cC (.str "write")) cNil))))) (cVar 7)))) (cRet (cC (.bl false))) cNext)) [s0, s1, s2, some kd.k, some v.d, s5, s6, some (.int x), s8, s9, s10, s11] m)
    fun f m1 => ∃ y8 y10 y11, f = .nx [s0, s1, s2, some kd.k, some v.d, s5, s6, some (.int x), y8, s9, y10, y11] ∧ Kp [] m m1 := by
  refine w_seqG <| w_forT <| w_tup <| w_cons <| w_c <| w_cons <| w_c <| w_cons <| w_c <| w_cons <| w_c <| w_cons <| w_c <| w_cons <| w_c <| w_cons <| w_c <| w_cons <| w_c <| w_cons <| w_c <| w_cons <| w_c <| w_nil ⟨le_sz, _, rfl, ?_⟩
  refine w_forL (fun ds ρ m' => Kp [] m m' ∧ (∃ ts : List Tm, ds = ts.map (fun t => D.str t.w) ∧ ∀ t ∈ ts, t.ok ∧ t.sm) ∧ ∃ y8 y10 y11, ρ = [s0, s1, s2, some kd.k, some v.d, s5, s6, some (.int x), y8, s9, y10, y11]) (fun _ _ _ _ => Wt.none) ?_ ?_ _ _ _ ⟨.refl, ⟨tms, rfl, tms_ok⟩, _, _, _, rfl⟩
  · rintro d ds ρ m1 ⟨K1, ⟨ts, ets, ok⟩, y8, y10, y11, rfl⟩
    cases ts with
    | nil => cases ets
    | cons t ts =>
      cases ets
      have ht := ok t (List.mem_cons_self ..)
      refine ⟨_, rfl, ?_⟩
      refine (term_turn (tm := t) (kd := kd) (v := v) (x := x) ht.1 ht.2 hk hv hx).mono fun f m2 h => ?_
      obtain ⟨z10, z11, rfl, K2⟩ := h
      exact ⟨K1.trans K2, ⟨ts, rfl, fun u hu => ok u (List.mem_cons_of_mem _ hu)⟩, _, _, _, rfl⟩
  · rintro ρ m1 ⟨K1, _, y8, y10, y11, rfl⟩
    refine w_ifS <| w_andT <| w_B <| w_c2 <| w_var rfl <| w_tup <| w_cons <| w_c <| w_cons <| w_c <| w_nil ⟨le_sz, ninK (kd := kd) (ws := ["set", "list"]) hk (by decide +kernel) ?_⟩
    rw [among_sl kd]
    refine ⟨_, rfl, fun hn => ?_, fun hn => ?_⟩
    · refine w_B <| w_c2 <| w_callK0 <| w_cons <| w_var rfl <| w_cons <| w_var rfl <| w_cons <| w_var rfl <| w_cons <| w_c <| w_nil ⟨rfl, ?_⟩
      refine changed_ok (tm := .write) (u := .n x) trivial hk hv (by unfold act; exact if_pos hn) _ _ fun m2 K2 => ?_
      refine w_var rfl <| w_neI ⟨_, rfl, (fun e => absurd e (by simp)), fun _ => w_next ⟨_, _, _, rfl, K1.trans K2⟩⟩
    · exact ⟨(fun e => nomatch e), fun _ => w_next ⟨_, _, _, rfl, K1⟩⟩

end Law

set_option Elab.async false
set_option linter.all false
set_option maxRecDepth 100000
set_option maxHeartbeats 40000000
set_option exponentiation.threshold 3000
namespace Law
open PySem L2 L3
theorem cast_turn {kd : Kd} {f : Nat} {m : M} {s0 s2 s4 s5 s6 s7 s8 s9 s10 s11 : Option D} (hk : kd.ok) (F0 : Feed (fun _ => none) [f] m f) :
    W ((cSeq (cAsg (cCall F__law_has (cCons (cVar 1) (cCons (cVar 3) cNil))) (gSet 4))
    (cSeq (cAsg (cIf (cAndT (cTru (cIsi "tuple" (cVar 4))) (cB (c2 fNe (cVar 4) (cTup cNil)))) (c2 ixD (cVar 4) (cCall F__law_draw (cCons (cVar 1) (cCons (cCall (f1 lenD) (cCons (cVar 4) cNil)) cNil)))) (cC (.int 3))) (gSet 5))
    (cSeq (cAsg (cCall (f1 rprD) (cCons (cTup (cCons (cVar 3) (cCons (cVar 4) cNil))) cNil)) (gSet 6))
    (cSeq (cFor (iTupD (cTup (cCons (cVar 5) (cCons (cCall F__law_number (cCons (cVar 1) cNil)) (cCons (cNeg (cC (.int 1))) (cCons (cC (.int 0)) cNil)))))) (gSet 7) (cSeq (cFor (iTupD (cTup (cCons (cC (.str "write")) (cCons (cC (.str "add")) (cCons (cC (.str "put")) (cCons (cC (.str "take")) (cCons (cC (.str "row")) (cCons (cC (.str "read")) (cCons (cC (.str "tell")) (cCons (cC (.str "")) (cCons (cC (.str "Write")) (cCons (cC (.str "set")) cNil)))))))))))) (gSet 8) (cSeq (cAsg (cCall F__law_due (cCons (cVar 3) (cCons (cVar 4) (cCons (cVar 8) (cCons (cVar 7) cNil))))) (gSet 10))
    (cSeq (cAsg (cIf (cB (c2 fIsN (cVar 10) (cC .non))) (cTup (cCons (cC (.str "no")) (cCons (cVar 8) cNil))) (cTup (cCons (cC (.str "told")) (cCons (cVar 10) cNil)))) (gSet 11))
    (cIfS (cB (c2 fNe (cCall (f1 rprD) (cCons (cCall F__law_told (cCons (cVar 3) (cCons (cVar 4) (cCons (cVar 8) (cCons (cVar 7) cNil))))) cNil)) (cCall (f1 rprD) (cCons (cVar 11) cNil)))) (cRet (cC (.bl false))) cNext))))
    (cIfS (cAndT (cB (c2 fNinX (cVar 3) (cTup (cCons (cC (.str "set")) (cCons (cC (.str "list")) cNil))))) (cB (c2 fNe (cCallK0 4 F_changed (apG 0 4 [2, 1, 3, 0]) (cCons (cVar 7) (cCons (cVar 4) (cCons (cVar 3) (cCons (cC (.str "write")) cNil))))) (cVar 7)))) (cRet (cC (.bl false))) cNext)))
    (cIfS (cB (c2 fNe (cCall (f1 rprD) (cCons (cTup (cCons (cVar 3) (cCons (cVar 4) cNil))) cNil)) (cVar 6))) (cRet (cC (.bl false))) cNext))))) [s0, some (.ref f), s2, some kd.k, s4, s5, s6, s7, s8, s9, s10, s11] m)
    fun fl m1 => ∃ y4 y5 y6 y7 y8 y10 y11, fl = .nx [s0, some (.ref f), s2, some kd.k, y4, y5, y6, y7, y8, s9, y10, y11] ∧ Feed (fun _ => none) [f] m1 f ∧ Kp [f] m m1 := by
  refine w_sAsg <| w_call <| w_cons <| w_var rfl <| w_cons <| w_var rfl <| w_nil ?_
  refine has_spec kd hk F0 fun v m1 hv F1 K1 => ?_
  have bv := okv_bd hv
  obtain ⟨z, hz⟩ := both_rpr hk bv
  have rest : ∀ {m2 : M} {i : Int}, i.natAbs < 10 ^ 60 → Feed (fun _ => none) [f] m2 f → Kp [f] m m2 → W ((cSeq (cAsg (cCall (f1 rprD) (cCons (cTup (cCons (cVar 3) (cCons (cVar 4) cNil))) cNil)) (gSet 6))
    (cSeq (cFor (iTupD (cTup (cCons (cVar 5) (cCons (cCall F__law_number (cCons (cVar 1) cNil)) (cCons (cNeg (cC (.int 1))) (cCons (cC (.int 0)) cNil)))))) (gSet 7) (cSeq (cFor (iTupD (cTup (cCons (cC (.str "write")) (cCons (cC (.str "add")) (cCons (cC (.str "put")) (cCons (cC (.str "take")) (cCons (cC (.str "row")) (cCons (cC (.str "read")) (cCons (cC (.str "tell")) (cCons (cC (.str "")) (cCons (cC (.str "Write")) (cCons (cC (.str "set")) cNil)))))))))))) (gSet 8) (cSeq (cAsg (cCall F__law_due (cCons (cVar 3) (cCons (cVar 4) (cCons (cVar 8) (cCons (cVar 7) cNil))))) (gSet 10))
    (cSeq (cAsg (cIf (cB (c2 fIsN (cVar 10) (cC .non))) (cTup (cCons (cC (.str "no")) (cCons (cVar 8) cNil))) (cTup (cCons (cC (.str "told")) (cCons (cVar 10) cNil)))) (gSet 11))
    (cIfS (cB (c2 fNe (cCall (f1 rprD) (cCons (cCall F__law_told (cCons (cVar 3) (cCons (cVar 4) (cCons (cVar 8) (cCons (cVar 7) cNil))))) cNil)) (cCall (f1 rprD) (cCons (cVar 11) cNil)))) (cRet (cC (.bl false))) cNext))))
    (cIfS (cAndT (cB (c2 fNinX (cVar 3) (cTup (cCons (cC (.str "set")) (cCons (cC (.str "list")) cNil))))) (cB (c2 fNe (cCallK0 4 F_changed (apG 0 4 [2, 1, 3, 0]) (cCons (cVar 7) (cCons (cVar 4) (cCons (cVar 3) (cCons (cC (.str "write")) cNil))))) (cVar 7)))) (cRet (cC (.bl false))) cNext)))
    (cIfS (cB (c2 fNe (cCall (f1 rprD) (cCons (cTup (cCons (cVar 3) (cCons (cVar 4) cNil))) cNil)) (cVar 6))) (cRet (cC (.bl false))) cNext))) [s0, some (.ref f), s2, some kd.k, some v.d, some (.int i), s6, s7, s8, s9, s10, s11] m2)
      fun fl m1 => ∃ y4 y5 y6 y7 y8 y10 y11, fl = .nx [s0, some (.ref f), s2, some kd.k, y4, y5, y6, y7, y8, s9, y10, y11] ∧ Feed (fun _ => none) [f] m1 f ∧ Kp [f] m m1 := fun {m2 i} hi F2 K2 => by
    refine w_sAsg <| w_call <| w_cons <| w_tup <| w_cons <| w_var rfl <| w_cons <| w_var rfl <| w_nil ⟨le_sz, w_nil <| hz _ _ ?_⟩
    refine w_seqG <| w_forT <| w_tup <| w_cons <| w_var rfl <| w_cons <| w_call <| w_cons <| w_var rfl <| w_nil ?_
    refine number_spec F2 fun j m3 hj F3 K3 => w_cons <| w_neg <| w_c ⟨_, rfl, w_cons <| w_c <| w_nil ⟨le_sz, _, rfl, ?_⟩⟩
    refine w_forL (fun ds ρ m' => Feed (fun _ => none) [f] m' f ∧ Kp [f] m m' ∧ (∃ xs : List Int, ds = xs.map D.int ∧ ∀ x ∈ xs, x.natAbs < 10 ^ 60) ∧ ∃ y7 y8 y10 y11, ρ = [s0, some (.ref f), s2, some kd.k, some v.d, some (.int i), some (.str z), y7, y8, s9, y10, y11]) (fun _ _ _ _ => Wt.none) ?_ ?_ _ _ _ ⟨F3, K2.trans K3, ⟨[i, j, -1, 0], rfl, ?_⟩, _, _, _, _, rfl⟩
    · rintro d ds ρ m4 ⟨F4, K4, ⟨xs, exs, ok⟩, y7, y8, y10, y11, rfl⟩
      cases xs with
      | nil => cases exs
      | cons x xs =>
        cases exs
        refine ⟨_, rfl, ?_⟩
        refine (fig_turn (kd := kd) (v := v) (x := x) hk hv (ok x (List.mem_cons_self ..))).mono fun fl m5 h => ?_
        obtain ⟨z8, z10, z11, rfl, K5⟩ := h
        exact ⟨feed_kp F4 K5, K4.trans (kp_up K5), ⟨xs, rfl, fun u hu => ok u (List.mem_cons_of_mem _ hu)⟩, _, _, _, _, rfl⟩
    · rintro ρ m4 ⟨F4, K4, _, y7, y8, y10, y11, rfl⟩
      refine w_ifS <| w_B <| w_c2 <| w_call <| w_cons <| w_tup <| w_cons <| w_var rfl <| w_cons <| w_var rfl <| w_nil ⟨le_sz, w_nil <| hz _ _ ?_⟩
      exact w_var rfl <| w_neS <| same_ne <| w_next ⟨_, _, _, _, _, _, _, rfl, F4, K4⟩
    · intro x hx
      simp only [List.mem_cons, List.mem_nil_iff, or_false] at hx
      rcases hx with rfl | rfl | rfl | rfl
      · exact hi
      · exact hj
      · decide
      · decide
  refine w_sAsg <| w_if <| w_andT <| w_tru <| w_isi <| w_var rfl ?_
  cases v with
  | n i =>
    exact ⟨_, rfl, _, rfl, (fun e => absurd e (by decide +kernel)), fun _ => ⟨(fun e => nomatch e), fun _ => w_c (rest (by decide) F1 K1)⟩⟩
  | t ns =>
    refine ⟨_, rfl, _, rfl, (fun _ => ?_), fun e => absurd e (by decide +kernel)⟩
    refine w_B <| w_c2 <| w_var rfl <| w_tup <| w_nil ⟨le_sz, neTup bv ⟨_, rfl, (fun hne => ?_), fun _ => w_c (rest (by decide) F1 K1)⟩⟩
    have hne : ns ≠ [] := by intro z; rw [z] at hne; cases hne
    have hl : 0 < ns.length := List.length_pos_iff.mpr hne
    have hlb : ns.length ≤ 300 := bv.1
    refine w_c2 <| w_var rfl <| w_call <| w_cons <| w_var rfl <| w_cons <| w_call <| w_cons <| w_var rfl <| w_nil <| w_lenT <| w_nil ?_
    refine draw_spec F1 (by rw [List.length_map]; omega) (by rw [List.length_map]; omega) fun r m2 r0 r1 F2 K2 => ?_
    rw [List.length_map] at r1
    obtain ⟨y, hy, hm⟩ : ∃ y : Int, atI (ns.map D.int) r = some (.int y) ∧ y ∈ ns := by
      have hlt : r.toNat < ns.length := by omega
      refine ⟨ns[r.toNat], ?_, List.getElem_mem hlt⟩
      have e : (ns.map D.int)[r.toNat]? = some (.int ns[r.toNat]) := by rw [List.getElem?_map, List.getElem?_eq_getElem hlt]; rfl
      generalize ns[r.toNat] = y at e
      have := atI_nat e
      rwa [show ((r.toNat : Nat) : Int) = r by omega] at this
    refine w_ixT hy (rest ?_ F2 (K1.trans K2))
    have hsm : -1 ≤ y ∧ y ≤ 10 := by cases kd <;> first | exact (show OkS ns from hv).2 y hm | exact (show OkL ns from hv).2 y hm | exact hv.elim
    exact Nat.lt_of_le_of_lt (m := 10) (by omega) (by decide)
theorem math : ∀ ns : List Int, ns.length ≤ 63 → ∃ m', F_law [.fls (ns.map D.int)] [] = some (.bl true, m') := by
  intro ns _
  refine W.ex ?_
  unfold F_law
  refine w_run ?_
  unfold c_law
  refine w_sAsg <| w_call <| w_cons <| w_var rfl <| w_nil ?_
  refine feed_spec (g0 := fun _ => none) fun f m0 F0 => ?_
  refine w_sAsg <| w_c2 <| w_lcR <| w_cons <| w_c <| w_nil ⟨8, rfl, ⟨by decide, by decide⟩, by decide, ?_⟩
  refine w_lcL (fun ds out m' => (∃ ks : List Kd, out = ks.map Kd.k ∧ (∀ k ∈ ks, k.ok) ∧ ks.length + ds.length = 8) ∧ Feed (fun _ => none) [f] m' f) (fun _ _ _ _ => Wt.none) ?_ _ [] m0 _ ⟨⟨[], rfl, (fun n hn => nomatch hn), rfl⟩, F0⟩ ?_
  · rintro d ds out m1 ⟨⟨ks, rfl, ok, hl⟩, F1⟩
    refine ⟨_, rfl, W.some ⟨fun _ => ?_, fun z => nomatch z⟩⟩
    refine w_call <| w_cons <| w_var rfl <| w_nil ?_
    refine kind_spec F1 fun kd m2 hk F2 K2 => ?_
    refine ⟨⟨ks ++ [kd], by rw [List.map_append]; rfl, fun u hu => ?_, by simp at hl ⊢; omega⟩, F2⟩
    rcases List.mem_append.mp hu with hu | hu
    · exact ok u hu
    · rw [List.mem_singleton.mp hu]; exact hk
  rintro out m1 ⟨⟨ks, hout, ok, hl⟩, F1⟩
  rw [List.nil_append] at hout
  subst hout
  have F2 := F1.push (.lst (ks.map Kd.k))
  refine w_lst <| w_cons <| w_c <| w_cons <| w_c <| w_cons <| w_c <| w_cons <| w_c <| w_cons <| w_c <| w_nil ⟨le_sz, ?_⟩
  refine w_addL at_prev at_last ?_ ?_
  · rw [List.length_append, List.length_map]; exact Nat.le_trans (m := 13) (by show _ + 5 ≤ 13; simp at hl; omega) (by decide)
  have F3 := (F2.push (.lst [.str "set", .str "list", .str "sum", .str "plain", .str "most"])).push (.lst (ks.map Kd.k ++ [.str "set", .str "list", .str "sum", .str "plain", .str "most"]))
  have hq := (F2.push (.lst [.str "set", .str "list", .str "sum", .str "plain", .str "most"])).fresh
  have e3 : (m1 ++ [MO.lst (ks.map Kd.k)] ++ [MO.lst [.str "set", .str "list", .str "sum", .str "plain", .str "most"]] ++ [MO.lst (ks.map Kd.k ++ [.str "set", .str "list", .str "sum", .str "plain", .str "most"])])[(m1 ++ [MO.lst (ks.map Kd.k)] ++ [MO.lst [.str "set", .str "list", .str "sum", .str "plain", .str "most"]]).length]? = some (.lst (ks.map Kd.k ++ [.str "set", .str "list", .str "sum", .str "plain", .str "most"])) := at_last
  generalize (m1 ++ [MO.lst (ks.map Kd.k)] ++ [MO.lst [.str "set", .str "list", .str "sum", .str "plain", .str "most"]]).length = q at e3 hq
  generalize m1 ++ [MO.lst (ks.map Kd.k)] ++ [MO.lst [.str "set", .str "list", .str "sum", .str "plain", .str "most"]] ++ [MO.lst (ks.map Kd.k ++ [.str "set", .str "list", .str "sum", .str "plain", .str "most"])] = m3 at e3 F3
  refine w_seqG <| w_forLs <| w_var rfl ⟨q, _, rfl, e3, ?_⟩
  refine w_forL (fun ds ρ m' => Feed (fun _ => none) [f] m' f ∧ Kp [f] m3 m' ∧ (∃ kds : List Kd, ds = kds.map Kd.k ∧ ∀ k ∈ kds, k.ok) ∧ ∃ y3 y4 y5 y6 y7 y8 y9 y10 y11, ρ = [some (.fls (ns.map D.int)), some (.ref f), some (.ref q), y3, y4, y5, y6, y7, y8, y9, y10, y11])
    (fun _ _ m' h n hn => by cases hn; exact (h.2.1.keep q (List.getElem?_eq_some_iff.mp e3).1 hq)) ?_ ?_ _ _ _ ⟨F3, .refl, ⟨ks ++ [.set, .list, .sum, .plain, .most], by rw [List.map_append]; rfl, fun u hu => ?_⟩, _, _, _, _, _, _, _, _, _, rfl⟩
  · rintro d ds ρ m4 ⟨F4, K4, ⟨kds, ek, ok4⟩, y3, y4, y5, y6, y7, y8, y9, y10, y11, rfl⟩
    cases kds with
    | nil => cases ek
    | cons kd kds =>
      cases ek
      refine ⟨_, rfl, ?_⟩
      refine (cast_turn (kd := kd) (ok4 kd (List.mem_cons_self ..)) F4).mono fun fl m5 h => ?_
      obtain ⟨z4, z5, z6, z7, z8, z10, z11, rfl, F5, K5⟩ := h
      exact ⟨F5, K4.trans K5, ⟨kds, rfl, fun u hu => ok4 u (List.mem_cons_of_mem _ hu)⟩, _, _, _, _, _, _, _, _, _, rfl⟩
  · rintro ρ m4 ⟨F4, K4, _, y3, y4, y5, y6, y7, y8, y9, y10, y11, rfl⟩
    exact w_ret <| w_c ⟨_, rfl, rfl⟩
  · rcases List.mem_append.mp hu with hu | hu
    · exact ok u hu
    · simp only [List.mem_cons, List.mem_nil_iff, or_false] at hu
      rcases hu with rfl | rfl | rfl | rfl | rfl <;> trivial

end Law

open PySem PySem.W PyProof.Rows
set_option maxRecDepth 100000 in
set_option maxHeartbeats 0 in
theorem PySem.Challenge.cw_forkjoins_k04_changed_holds : PySem.Challenge.rw_forkjoins_k04_changed.Holds := by
  w_on; o_law; k_head; (case hw => w_witness2)
  k_fill
  refine Law.walk (l := PySem.Challenge.rw_forkjoins_k04_changed) Law.math rfl rfl (fun w h Y => PySem.W.kIn_of Y) ?F
  case F =>
    intro w mg fa h KX G hmg
    refine' Law.all_mk KX G hmg ?a_suits ?l_suits ?c_suits ?k_suits ?a_without_number ?l_without_number ?c_without_number ?k_without_number ?a_with_number ?l_with_number ?c_with_number ?k_with_number ?a_changed ?l_changed ?c_changed ?k_changed ?a__law_feed ?l__law_feed ?c__law_feed ?k__law_feed ?a__law_draw ?l__law_draw ?c__law_draw ?k__law_draw ?a__law_number ?l__law_number ?c__law_number ?k__law_number ?a__law_sum ?l__law_sum ?c__law_sum ?k__law_sum ?a__law_has ?l__law_has ?c__law_has ?k__law_has ?a__law_kind ?l__law_kind ?c__law_kind ?k__law_kind ?a__law_due ?l__law_due ?c__law_due ?k__law_due ?a__law_told ?l__law_told ?c__law_told ?k__law_told ?a_law ?l_law ?c_law ?k_law ?z_enumerate ?z_int ?z_isinstance ?z_len ?z_list ?z_range ?z_repr ?z_set ?z_sorted ?z_tuple ?z_ONLY ?y_ONLY ?v_ONLY ?x_ONLY ?sy_ONLY ?z_WRITING ?y_WRITING ?xa_NoStep ?xe_NoStep ?xa_NoBack ?xe_NoBack ?xa_NoRevision ?xe_NoRevision ?xa_PaperError ?xe_PaperError ?xa_RunError ?xe_RunError ?xa_TextError ?xe_TextError ?xhn ?xtk ?xs_NoStep ?xg_NoStep ?xh_NoStep ?xo_NoStep ?xd_NoStep ?xc_NoStep ?xi_NoStep ?xl_NoStep ?xcd_NoStep ?xkf_NoStep ?xfn_NoStep ?xkc_NoStep ?xn_NoStep_word ?xm_NoStep_NoBack ?xq_NoStep_NoBack ?xm_NoStep_NoRevision ?xq_NoStep_NoRevision ?xm_NoStep_NoStep ?xq_NoStep_NoStep ?xm_NoStep_PaperError ?xq_NoStep_PaperError ?xm_NoStep_RunError ?xq_NoStep_RunError ?xm_NoStep_TextError ?xq_NoStep_TextError
    (case a_suits => k_is)
    (case l_suits => k_is)
    (case c_suits => k_is)
    (case k_suits => k_is)
    (case a_without_number => k_is)
    (case l_without_number => k_is)
    (case c_without_number => k_is)
    (case k_without_number => k_is)
    (case a_with_number => k_is)
    (case l_with_number => k_is)
    (case c_with_number => k_is)
    (case k_with_number => k_is)
    (case a_changed => k_is)
    (case l_changed => k_is)
    (case c_changed => k_is)
    (case k_changed => k_is)
    (case a__law_feed => k_is)
    (case l__law_feed => k_is)
    (case c__law_feed => k_is)
    (case k__law_feed => k_is)
    (case a__law_draw => k_is)
    (case l__law_draw => k_is)
    (case c__law_draw => k_is)
    (case k__law_draw => k_is)
    (case a__law_number => k_is)
    (case l__law_number => k_is)
    (case c__law_number => k_is)
    (case k__law_number => k_is)
    (case a__law_sum => k_is)
    (case l__law_sum => k_is)
    (case c__law_sum => k_is)
    (case k__law_sum => k_is)
    (case a__law_has => k_is)
    (case l__law_has => k_is)
    (case c__law_has => k_is)
    (case k__law_has => k_is)
    (case a__law_kind => k_is)
    (case l__law_kind => k_is)
    (case c__law_kind => k_is)
    (case k__law_kind => k_is)
    (case a__law_due => k_is)
    (case l__law_due => k_is)
    (case c__law_due => k_is)
    (case k__law_due => k_is)
    (case a__law_told => k_is)
    (case l__law_told => k_is)
    (case c__law_told => k_is)
    (case k__law_told => k_is)
    (case a_law => k_is)
    (case l_law => k_is)
    (case c_law => k_is)
    (case k_law => k_is)
    (case z_enumerate => k_is)
    (case z_int => k_is)
    (case z_isinstance => k_is)
    (case z_len => k_is)
    (case z_list => k_is)
    (case z_range => k_is)
    (case z_repr => k_is)
    (case z_set => k_is)
    (case z_sorted => k_is)
    (case z_tuple => k_is)
    (case z_ONLY => k_is)
    (case y_ONLY => k_is)
    (case v_ONLY => k_keys)
    (case x_ONLY => intros; kernel_rfl)
    (case sy_ONLY => decide)
    (case z_WRITING => k_is)
    (case y_WRITING => k_is)
    (case xa_NoStep => k_is)
    (case xe_NoStep => kernel_rfl)
    (case xa_NoBack => k_is)
    (case xe_NoBack => kernel_rfl)
    (case xa_NoRevision => k_is)
    (case xe_NoRevision => kernel_rfl)
    (case xa_PaperError => k_is)
    (case xe_PaperError => kernel_rfl)
    (case xa_RunError => k_is)
    (case xe_RunError => kernel_rfl)
    (case xa_TextError => k_is)
    (case xe_TextError => kernel_rfl)
    (case xhn => k_is)
    (case xtk => k_is)
    (case xs_NoStep => k_is)
    (case xg_NoStep => k_is)
    (case xh_NoStep => k_is)
    (case xo_NoStep => kernel_rfl)
    (case xd_NoStep => k_is)
    (case xc_NoStep => k_is)
    (case xi_NoStep => k_is)
    (case xl_NoStep => k_is)
    (case xcd_NoStep => k_is)
    (case xkf_NoStep => k_is)
    (case xfn_NoStep => k_is)
    (case xkc_NoStep => k_is)
    (case xn_NoStep_word => k_is)
    (case xm_NoStep_NoBack => kernel_rfl)
    (case xq_NoStep_NoBack => kernel_rfl)
    (case xm_NoStep_NoRevision => kernel_rfl)
    (case xq_NoStep_NoRevision => kernel_rfl)
    (case xm_NoStep_NoStep => kernel_rfl)
    (case xq_NoStep_NoStep => kernel_rfl)
    (case xm_NoStep_PaperError => kernel_rfl)
    (case xq_NoStep_PaperError => kernel_rfl)
    (case xm_NoStep_RunError => kernel_rfl)
    (case xq_NoStep_RunError => kernel_rfl)
    (case xm_NoStep_TextError => kernel_rfl)
    (case xq_NoStep_TextError => kernel_rfl)

