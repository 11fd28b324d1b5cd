import PyProof.Rows.All
import Wide.All
import OpenK.AllK
import Wide.FinOn
import Lean
import PyProof.EqAt
import PyProof.EqKinds
import PyProof.TupleCall
import PyProof.ZipIter
import PySem.Challenge.RW_dustwalk_k29_areas
set_option Elab.async false
set_option linter.all false
set_option maxRecDepth 100000
/-! THE HAND LAYER, for ints, bools, texts, own classes, DICTS (int and text keys), calls, loops. Paste it whole ahead of your own text; what your proof does not reach may be deleted. -/
namespace L2
open PySem PySem.Spec PyProof.Rows

/-- a key: an int or a str -/
abbrev Key := Sum Int Str
def keyIs : Key → Value → Bool
  | .inl k, v => Value.isInt k v
  | .inr x, v => Value.isStrOf x v
def keyH (w : World) : Key → Int
  | .inl k => hashInt k
  | .inr x => hashStr w x
theorem keyIs_shape : ∀ {k : Key} {v : Value}, keyIs k v = true → (∃ i t, k = Sum.inl i ∧ v = Value.int i t) ∨ (∃ x t, k = Sum.inr x ∧ v = Value.str x t)
  | .inl i, v, h => by
    obtain ⟨t, e⟩ := Value.isInt_shape (k := i) (v := v) h
    exact .inl ⟨i, t, rfl, e⟩
  | .inr x, v, h => by
    obtain ⟨t, e⟩ := Value.isStrOf_shape (x := x) (v := v) h
    exact .inr ⟨x, t, rfl, e⟩
theorem keyIs_int (i : Int) (t : Tok) : keyIs (.inl i) (.int i t) = true := by simp [keyIs, Value.isInt]
theorem keyIs_str (x : Str) (t : Tok) : keyIs (.inr x) (.str x t) = true := by simp [keyIs, Value.isStrOf]
theorem key_ll (a b : Int) : decide ((Sum.inl a : Key) = Sum.inl b) = (a == b) := by
  by_cases e : a = b
  · subst e; simp
  · have h : ¬ (Sum.inl a : Key) = Sum.inl b := fun q => e (Sum.inl.inj q)
    rw [decide_eq_false h]
    exact (beq_eq_false_iff_ne.mpr e).symm
theorem key_rr (a b : Str) : decide ((Sum.inr a : Key) = Sum.inr b) = decide (a = b) := by
  by_cases e : a = b
  · subst e; simp
  · have h : ¬ (Sum.inr a : Key) = Sum.inr b := fun q => e (Sum.inr.inj q)
    rw [decide_eq_false h, decide_eq_false e]
theorem key_lr (a : Int) (b : Str) : decide ((Sum.inl a : Key) = Sum.inr b) = false := decide_eq_false (fun q => nomatch q)
theorem key_rl (a : Str) (b : Int) : decide ((Sum.inr a : Key) = Sum.inl b) = false := decide_eq_false (fun q => nomatch q)

def mixKind (prog : Program) (w : World) : PySem.KeyKind prog w Key where
  is := keyIs
  hash := keyH w
  inj := fun v a b ha hb => by
    rcases keyIs_shape ha with ⟨i, t, rfl, rfl⟩ | ⟨x, t, rfl, rfl⟩
    · rcases keyIs_shape hb with ⟨j, u, rfl, e⟩ | ⟨y, u, rfl, e⟩
      · injection e with e1 _; rw [e1]
      · exact nomatch e
    · rcases keyIs_shape hb with ⟨j, u, rfl, e⟩ | ⟨y, u, rfl, e⟩
      · exact nomatch e
      · injection e with e1 _; rw [e1]
  byValue := fun k v h => by
    rcases keyIs_shape h with ⟨i, t, rfl, rfl⟩ | ⟨x, t, rfl, rfl⟩ <;> rfl
  pyHash := fun hv h => by
    rcases keyIs_shape hv with ⟨i, t, rfl, rfl⟩ | ⟨x, t, rfl, rfl⟩
    · exact wpAny_pyHash_int h
    · exact wpAny_pyHash_str h
  eqBool := fun hu hv h => by
    rcases keyIs_shape hu with ⟨i, t, rfl, rfl⟩ | ⟨x, t, rfl, rfl⟩
    · rcases keyIs_shape hv with ⟨j, u, rfl, rfl⟩ | ⟨y, u, rfl, rfl⟩
      · rw [key_ll] at h; exact wpAny_eqBool_int h
      · rw [key_lr] at h; exact SeqAt.EqAt.int_str i t y u _ _ _ _ h
    · rcases keyIs_shape hv with ⟨j, u, rfl, rfl⟩ | ⟨y, u, rfl, rfl⟩
      · rw [key_rl] at h; exact SeqAt.EqAt.str_int x t j u _ _ _ _ h
      · rw [key_rr] at h; exact wpAny_eqBool_str h
  «strs» := fun k x t v h => by
    rcases keyIs_shape h with ⟨i, u, rfl, e⟩ | ⟨y, u, rfl, e⟩
    · exact nomatch e
    · injection e with e1 _
      subst e1
      cases v <;> rfl

theorem mixKind_is (prog : Program) (w : World) (k : Key) (v : Value) : (mixKind prog w).is k v = keyIs k v := rfl
theorem mixKind_int (prog : Program) (w : World) (i : Int) (t : Tok) : (mixKind prog w).is (.inl i) (.int i t) = true := keyIs_int i t
theorem mixKind_str (prog : Program) (w : World) (x : Str) (t : Tok) : (mixKind prog w).is (.inr x) (.str x t) = true := keyIs_str x t
end L2

namespace L2
open PySem PySem.Spec PyProof.Rows

/-- a value, without the heap -/
inductive V where
  | non | bl (b : Bool) | int (i : Int) | str (x : Str) | byt (b : Array UInt8) | flt (b : UInt64) | ref (a : Addr) | ty (n : String)
  deriving DecidableEq

def RelV : V → Value → Prop
  | .non, u => u = Value.none
  | .bl b, u => u = Value.bool b
  | .int i, u => ∃ t, u = Value.int i t
  | .str x, u => ∃ t, u = Value.str x t
  | .byt b, u => ∃ t, u = Value.bytes b t
  | .flt b, u => ∃ t, u = Value.float b t
  | .ref a, u => u = Value.ref a
  | .ty n, u => u = Value.type n

abbrev Vals : List V → List Value → Prop := Paired RelV
theorem Vals.length {xs : List V} {us : List Value} (r : Vals xs us) : xs.length = us.length := Paired.length r
theorem Vals.get : ∀ {xs : List V} {us : List Value} {i : Nat} {x : V}, Vals xs us → xs[i]? = some x → ∃ u, us[i]? = some u ∧ RelV x u
  | _, _, _, _, .nil, e => by simp at e
  | _, _, 0, _, .cons r _, e => by simp at e; subst e; exact ⟨_, rfl, r⟩
  | _, _, i + 1, x, .cons _ t, e => by
    obtain ⟨u, h1, h2⟩ := Vals.get (i := i) (x := x) t (by simpa using e)
    exact ⟨u, by simpa using h1, h2⟩
theorem Vals.set {x : V} {u : Value} (r : RelV x u) : ∀ {xs : List V} {us : List Value} (i : Nat), Vals xs us → Vals (xs.set i x) (us.set i u)
  | _, _, _, .nil => .nil
  | _, _, 0, .cons _ t => .cons r t
  | _, _, i + 1, .cons q t => .cons q (Vals.set r i t)
theorem Vals.append : ∀ {xs ys : List V} {us ws : List Value}, Vals xs us → Vals ys ws → Vals (xs ++ ys) (us ++ ws)
  | _, _, _, _, .nil, s => s
  | _, _, _, _, .cons r t, s => .cons r (Vals.append t s)
theorem Vals.take : ∀ {xs : List V} {us : List Value} (n : Nat), Vals xs us → Vals (xs.take n) (us.take n)
  | _, _, 0, _ => .nil
  | _, _, _ + 1, .nil => .nil
  | _, _, n + 1, .cons r t => .cons r (Vals.take n t)
theorem Vals.drop : ∀ {xs : List V} {us : List Value} (n : Nat), Vals xs us → Vals (xs.drop n) (us.drop n)
  | _, _, 0, r => r
  | _, _, _ + 1, .nil => .nil
  | _, _, n + 1, .cons _ t => Vals.drop n t
theorem Vals.none_of : ∀ {xs : List V} {us : List Value} {i : Nat}, Vals xs us → xs[i]? = none → us[i]? = none := fun {xs us i} r e => by
  have h1 := r.length
  have h2 : xs.length ≤ i := List.getElem?_eq_none_iff.mp e
  exact List.getElem?_eq_none_iff.mpr (by omega)

def RelO : Option V → Option Value → Prop
  | some v, some u => RelV v u
  | none, none => True
  | _, _ => False
def KV {κ : Type} : List (κ × V) → List (κ × Value) → Prop := Paired fun (p : κ × V) (q : κ × Value) => p.1 = q.1 ∧ RelV p.2 q.2

/-- a key of a dict (00_mix): an int or a text -/
def kV : Key → V
  | .inl i => .int i
  | .inr x => .str x

/-- what stands at a tracked address -/
inductive HO where
  /-- a list -/
  | lst (xs : List V)
  /-- a tuple (never changes) -/
  | tup (xs : List V)
  /-- a dict whose keys are ints and texts; one whose keys are tuples of ints and texts (the empty one is both) -/
  | dK (kvs : List (Key × V)) | dT (kvs : List (List Key × V))
  /-- a set of ints: its members, its size -/
  | set (S : Int → Bool) (n : Nat)
  /-- an instance of the class at C, its dict at dx, its attributes -/
  | ins (C dx : Addr) (fs : List (Str × V))
  /-- the dict of the instance at x -/
  | own (x : Addr)
  /-- the dict of an exception -/
  | xd (fs : List (Str × V))
  /-- a bound method, f of x -/
  | met (f x : Addr)
  /-- a range object lo, lo + 1, .. below hi -/
  | rng (lo hi : Int)
  /-- a thing that is known to the object (the script; a dict while a loop walks it): read, never written while it is so -/
  | frz (o : Obj) (u : HO)
  /-- a code object's table -/
  | tbl (ps : Array Value)
  /-- any other thing, by what is true of its one object (a def of one's own: SetO a S n := HO.ext fun h => ..) -/
  | ext (φ : Heap → Prop)

abbrev Hp := Addr → Option HO
def upd (H : Hp) (a : Addr) (o : HO) : Hp := fun b => if b = a then some o else H b
theorem upd_same {H : Hp} {a : Addr} {o : HO} : upd H a o a = some o := by unfold upd; rw [if_pos rfl]
theorem upd_ne {H : Hp} {a b : Addr} {o : HO} (h : b ≠ a) : upd H a o b = H b := by unfold upd; rw [if_neg h]
theorem upd_upd {H : Hp} {a : Addr} {o u : HO} : upd (upd H a o) a u = upd H a u := by
  funext b; unfold upd; split <;> rfl
/-- two objects of different content stand apart -/
theorem ne_of {H : Hp} {a b : Addr} {o u : HO} (h : H a = some o) (h' : H b = some u) (d : o ≠ u) : a ≠ b := by
  intro e; subst e; rw [h] at h'; exact d (Option.some.inj h')
theorem ne_of_none {H : Hp} {a b : Addr} {o : HO} (h : H a = some o) (h' : H b = none) : a ≠ b := by
  intro e; subst e; rw [h] at h'; cases h'

/-- a tuple that is read: tracked, or a constant of the module -/
def TupAt (K : PySem.W.Frag) (H : Hp) (a : Addr) (vs : List V) : Prop :=
  H a = some (.tup vs) ∨ ∃ (o : Obj) (its : Array Value) (n : Nat), K.lookup a = some o ∧ o.cls = .type "tuple" ∧ o.data = .seq its n ∧ its.size ≤ sizeLine ∧ Vals vs its.toList
theorem TupAt.mono {K : PySem.W.Frag} {H H' : Hp} {a : Addr} {vs : List V} (t : TupAt K H a vs) (h : ∀ b xs, H b = some (.tup xs) → H' b = some (.tup xs)) : TupAt K H' a vs := by
  rcases t with t | t
  · exact .inl (h _ _ t)
  · exact .inr t
section
variable (P : Program) (w : World) (K : PySem.W.Frag)
def ObjOk (H : Hp) (h : Heap) (a : Addr) : HO → Prop
  | .lst xs => xs.length ≤ sizeLine ∧ ∃ (its : List Value) (n : Nat), Vals xs its ∧ h.get? a = some { cls := .type "list", data := .seq its.toArray n }
  | .tup xs => xs.length ≤ sizeLine ∧ ∃ its : List Value, Vals xs its ∧ IsTup h a its.toArray
  | .dK kvs => kvs.length ≤ sizeLine ∧ (a == sysModules) = false ∧ ∃ vs, KV kvs vs ∧ h.DictOf (mixKind P w) a vs
  | .dT kvs => kvs.length ≤ sizeLine ∧ (a == sysModules) = false ∧ ∃ xs : List (List Key × Addr × Value),
      Paired (fun (p : List Key × V) (q : List Key × Addr × Value) => p.1 = q.1 ∧ TupAt K H q.2.1 (p.1.map kV) ∧ RelV p.2 q.2.2) kvs xs ∧
      ∃ o es ep, h.get? a = some o ∧ o.ExactDict ∧ o.data = .dict es ep ∧ es.toList = xs.map (entryOfKey (tupleKind (mixKind P w))) ∧ (xs.map (·.1)).Nodup
  | .set S n => h.SetOf (intKind P w) a S n
  | .ins C dx fs => H dx = some (.own a) ∧ fs.length ≤ 1000 ∧ dx ≠ a ∧ h.get? a = some (PySem.W.instObj C dx) ∧
      ∃ mA, h.Ns1 dx mA ∧ (∀ f, RelO (fs.lookup f) (mA f)) ∧ PySem.Within mA (fs.map (·.1))
  | .own _ => ∃ o, h.get? a = some o
  | .xd fs => ∃ mA, h.Ns1 a mA ∧ ∀ f, RelO (fs.lookup f) (mA f)
  | .rng lo hi => ∃ t u v, h.get? a = some { cls := .type "range", data := .fields #[.int lo t, .int hi u, .int 1 v] }
  | .frz o u => h.get? a = some o ∧ ObjOk H h a u
  | .tbl ps => h.get? a = some { cls := .none, data := .fields ps }
  | .met f x => h.get? a = some (PySem.W.methodObj (.ref f) (.ref x))
  | .ext φ => φ h ∧ (∃ o, h.get? a = some o) ∧ ∀ h1 h2 : Heap, φ h1 → (∀ o, h1.get? a = some o → h2.get? a = some o) → φ h2
/-- the abstract heap is held -/
def HOk (H : Hp) (h : Heap) : Prop := ∀ a o, H a = some o → ObjOk P w K H h a o
end

section
variable {P : Program} {w : World} {H H' : Hp} {h h' : Heap} {a : Addr} {o : HO} {K : PySem.W.Frag}
theorem ObjOk.lt (x : ObjOk P w K H h a o) : a < h.objs.size := by
  cases o with
  | lst xs => obtain ⟨_, _, _, _, e⟩ := x; exact Heap.lt_size e
  | tup xs => obtain ⟨_, _, _, p⟩ := x; exact p.lt
  | dK kvs => obtain ⟨_, _, _, _, o, _, _, e, _⟩ := x; exact Heap.lt_size e
  | dT kvs => obtain ⟨_, _, _, _, o, _, _, e, _⟩ := x; exact Heap.lt_size e
  | set S n => obtain ⟨o, _, _, _, e, _⟩ := x; exact Heap.lt_size e
  | ins C dx fs => obtain ⟨_, _, _, e, _⟩ := x; exact Heap.lt_size e
  | own y => obtain ⟨_, e⟩ := x; exact Heap.lt_size e
  | xd fs => obtain ⟨_, ⟨_, _, _, e, _⟩, _⟩ := x; exact Heap.lt_size e
  | rng lo hi => obtain ⟨_, _, _, e⟩ := x; exact Heap.lt_size e
  | frz ob u => obtain ⟨e, _⟩ := x; exact Heap.lt_size e
  | tbl ps => exact Heap.lt_size (show h.get? a = some _ from x)
  | met f y => exact Heap.lt_size (show h.get? a = some _ from x)
  | ext φ => obtain ⟨_, ⟨_, e⟩, _⟩ := x; exact Heap.lt_size e
theorem Paired.mapP {α β : Type} {F G : α → β → Prop} : ∀ {l₁ : List α} {l₂ : List β}, Paired F l₁ l₂ → (∀ a b, F a b → G a b) → Paired G l₁ l₂
  | _, _, .nil, _ => .nil
  | _, _, .cons r t, f => .cons (f _ _ r) (Paired.mapP t f)
theorem Paired.imp' {α β : Type} {F G : α → β → Prop} (f : ∀ a b, F a b → G a b) {l₁ : List α} {l₂ : List β} (r : Paired F l₁ l₂) : Paired G l₁ l₂ := Paired.mapP r f
/-- what an object's description leans on: its own object, its own dict, the tuples -/
theorem ObjOk.stay (x : ObjOk P w K H h a o) (k : ∀ b u, (b = a ∨ H b = some (.own a)) → h.get? b = some u → h'.get? b = some u)
    (ho : ∀ b, H b = some (.own a) → H' b = some (.own a)) (ht : ∀ b xs, H b = some (.tup xs) → H' b = some (.tup xs)) : ObjOk P w K H' h' a o := by
  induction o with
  | lst xs => obtain ⟨z, its, n, r, e⟩ := x; exact ⟨z, its, n, r, k _ _ (.inl rfl) e⟩
  | tup xs => obtain ⟨z, its, r, ob, e, c⟩ := x; exact ⟨z, its, r, ob, k _ _ (.inl rfl) e, c⟩
  | dK kvs => obtain ⟨z, y, vs, r, ob, es, ep, e, c⟩ := x; exact ⟨z, y, vs, r, ob, es, ep, k _ _ (.inl rfl) e, c⟩
  | dT kvs =>
    obtain ⟨z, y, xs, r, ob, es, ep, e, c⟩ := x
    exact ⟨z, y, xs, Paired.mapP r fun p q z => ⟨z.1, z.2.1.mono ht, z.2.2⟩, ob, es, ep, k _ _ (.inl rfl) e, c⟩
  | set S n => obtain ⟨ob, es, ep, t, e, c⟩ := x; exact ⟨ob, es, ep, t, k _ _ (.inl rfl) e, c⟩
  | ins C dx fs =>
    obtain ⟨d, z, ne, e, mA, ⟨od, es, ep, e2, c⟩, r⟩ := x
    exact ⟨ho _ d, z, ne, k _ _ (.inl rfl) e, mA, ⟨od, es, ep, k _ _ (.inr d) e2, c⟩, r⟩
  | own y => obtain ⟨ob, e⟩ := x; exact ⟨ob, k _ _ (.inl rfl) e⟩
  | xd fs => obtain ⟨mA, ⟨od, es, ep, e, c⟩, r⟩ := x; exact ⟨mA, ⟨od, es, ep, k _ _ (.inl rfl) e, c⟩, r⟩
  | rng lo hi => obtain ⟨t, u, v, e⟩ := x; exact ⟨t, u, v, k _ _ (.inl rfl) e⟩
  | frz ob u ih => obtain ⟨e, q⟩ := x; exact ⟨k _ _ (.inl rfl) e, ih q⟩
  | tbl ps =>
    have e : h.get? a = some { cls := .none, data := .fields ps } := x
    show h'.get? a = some { cls := .none, data := .fields ps }
    exact k a _ (.inl rfl) e
  | met f y =>
    have e : h.get? a = some (PySem.W.methodObj (.ref f) (.ref y)) := x
    show h'.get? a = some (PySem.W.methodObj (.ref f) (.ref y))
    exact k a _ (.inl rfl) e
  | ext φ => obtain ⟨p, ⟨o, e⟩, st⟩ := x; exact ⟨st _ _ p fun o q => k _ _ (.inl rfl) q, ⟨o, k _ _ (.inl rfl) e⟩, st⟩
theorem HOk.lt (x : HOk P w K H h) (e : H a = some o) : a < h.objs.size := (x a o e).lt
theorem HOk.fresh (x : HOk P w K H h) (e : h.objs.size ≤ a) : H a = none := by
  cases q : H a with
  | none => rfl
  | some u => exact absurd (Nat.lt_of_lt_of_le (x.lt q) e) (Nat.lt_irrefl _)
/-- every object of the heap is kept -/
theorem HOk.kept (x : HOk P w K H h) (k : ∀ b u, h.get? b = some u → h'.get? b = some u) : HOk P w K H h' := fun a o e =>
  (x a o e).stay (fun b u _ q => k b u q) (fun _ q => q) fun _ _ q => q
/-- a new object is laid and tracked -/
theorem HOk.laid (x : HOk P w K H h) (k : ∀ b u, h.get? b = some u → h'.get? b = some u) (hp : h.objs.size ≤ a) (new : ObjOk P w K (upd H a o) h' a o) : HOk P w K (upd H a o) h' := fun b u e => by
  have hn := x.fresh hp
  by_cases hb : b = a
  · subst hb; rw [upd_same] at e; cases e; exact new
  · rw [upd_ne hb] at e
    exact (x b u e).stay (fun c v _ q => k c v q) (fun c q => by rw [upd_ne (ne_of_none q hn)]; exact q) fun c xs q => by rw [upd_ne (ne_of_none q hn)]; exact q
end

/-- what may be read as u: it is u, or a known u -/
def Rd (H : Hp) (a : Addr) (u : HO) : Prop := H a = some u ∨ ∃ o, H a = some (.frz o u)
theorem Rd.of {H : Hp} {a : Addr} {u : HO} (h : H a = some u) : Rd H a u := .inl h
theorem Rd.ok {P : Program} {w : World} {K : PySem.W.Frag} {H : Hp} {h : Heap} {a : Addr} {u : HO} (r : Rd H a u) (x : HOk P w K H h) : ObjOk P w K H h a u := by
  rcases r with r | ⟨o, r⟩
  · exact x a u r
  · obtain ⟨_, q⟩ := x a _ r
    exact q
/-- what may be written -/
def Mut : Option HO → Prop
  | some (.lst _) => True
  | some (.dK _) => True
  | some (.dT _) => True
  | some (.set _ _) => True
  | some (.ins _ _ _) => True
  | some (.ext _) => True
  | _ => False
section
variable {P : Program} {w : World} {H : Hp} {h h' : Heap} {x e : Addr} {o' : HO} {K : PySem.W.Frag}
/-- the object at e is changed: x itself, or the dict of the instance x -/
theorem HOk.write (ok : HOk P w K H h) (mu : Mut (H x)) (he : e = x ∨ H e = some (.own x)) (k : ∀ b u, b ≠ e → h.get? b = some u → h'.get? b = some u) (heo : ∃ u, h'.get? e = some u)
    (new : ObjOk P w K (upd H x o') h' x o') : HOk P w K (upd H x o') h' := fun b u q => by
  have nown : ∀ c y, H c = some (.own y) → c ≠ x := fun c y r z => by subst z; rw [r] at mu; exact mu
  have ntup : ∀ c xs, H c = some (.tup xs) → c ≠ x := fun c xs r z => by subst z; rw [r] at mu; exact mu
  by_cases hb : b = x
  · subst hb; rw [upd_same] at q; cases q; exact new
  · rw [upd_ne hb] at q
    by_cases hbe : b = e
    · have q' : H b = some (.own x) := by
        rcases he with z | z
        · exact absurd (hbe.trans z) hb
        · rw [hbe]; exact z
      rw [q] at q'; cases q'
      obtain ⟨v, hv⟩ := heo
      exact ⟨v, by rw [hbe]; exact hv⟩
    · refine (ok b u q).stay (fun c v hc r => k c v ?_ r) (fun c r => by rw [upd_ne (nown c b r)]; exact r) fun c xs r => by rw [upd_ne (ntup c xs r)]; exact r
      rcases hc with rfl | hc
      · exact hbe
      · rintro rfl
        rcases he with z | z
        · exact nown c b hc z
        · rw [hc] at z; cases z; exact hb rfl
end

/-! ### kept unless tracked; of the frames at fs (the callers') the slots may change (an exception that passes writes there); of the records at ex (iterators) nothing is said -/
structure Un (fs ex : List Addr) (H H' : Hp) (h h' : Heap) : Prop where
  keep : ∀ b o, h.get? b = some o → H b = none → b ∉ fs → b ∉ ex → h'.get? b = some o
  slot : ∀ b o, h.get? b = some o → H b = none → b ∈ fs → b ∉ ex → ∃ sl, h'.get? b = some { o with slots := sl }
  free : ∀ b o, h.get? b = some o → H b = none → b ∉ ex → H' b = none
  there : ∀ b o, h.get? b = some o → b ∉ ex → ∃ o', h'.get? b = some o'
  tups : ∀ b xs, H b = some (.tup xs) → H' b = some (.tup xs)
  frzs : ∀ b o u, H b = some (.frz o u) → H' b = some (.frz o u)
  tbls : ∀ b ps, H b = some (.tbl ps) → ∃ more, H' b = some (.tbl (ps ++ more))
section
variable {fs fs' ex ex' : List Addr} {H H1 H2 : Hp} {h h1 h2 h' : Heap} {a x e : Addr} {o : HO}
theorem Un.any (u : Un fs ex H H1 h h1) {b : Addr} {ob : Obj} (q : h.get? b = some ob) (n : H b = none) (hx : b ∉ ex) : ∃ sl, h1.get? b = some { ob with slots := sl } := by
  by_cases hb : b ∈ fs
  · exact u.slot b ob q n hb hx
  · exact ⟨ob.slots, u.keep b ob q n hb hx⟩
theorem Un.trans (a : Un fs ex H H1 h h1) (b : Un fs ex H1 H2 h1 h2) : Un fs ex H H2 h h2 where
  keep := fun c ob q n hc hx => b.keep c ob (a.keep c ob q n hc hx) (a.free c ob q n hx) hc hx
  slot := fun c ob q n hc hx => by
    obtain ⟨sl, e1⟩ := a.slot c ob q n hc hx
    obtain ⟨sl', e2⟩ := b.slot c _ e1 (a.free c ob q n hx) hc hx
    exact ⟨sl', e2⟩
  free := fun c ob q n hx => by
    obtain ⟨o', e1⟩ := a.there c ob q hx
    exact b.free c o' e1 (a.free c ob q n hx) hx
  there := fun c ob q hx => by
    obtain ⟨o', e1⟩ := a.there c ob q hx
    exact b.there c o' e1 hx
  tups := fun c xs q => b.tups c xs (a.tups c xs q)
  frzs := fun c ob xs q => b.frzs c ob xs (a.frzs c ob xs q)
  tbls := fun c ps q => by
    obtain ⟨m1, e1⟩ := a.tbls c ps q
    obtain ⟨m2, e2⟩ := b.tbls c _ e1
    exact ⟨m1 ++ m2, by rw [e2, Array.append_assoc]⟩
theorem Un.kept (k : ∀ b u, h.get? b = some u → h'.get? b = some u) : Un fs ex H H h h' :=
  ⟨fun b ob q _ _ _ => k b ob q, fun b ob q _ _ _ => ⟨ob.slots, k b ob q⟩, fun _ _ _ n _ => n, fun b ob q _ => ⟨ob, k b ob q⟩, fun _ _ q => q, fun _ _ _ q => q, fun _ ps q => ⟨#[], by rw [q]; simp⟩⟩
theorem Un.refl : Un fs ex H H h h := Un.kept fun _ _ q => q
theorem Un.laid (k : ∀ b u, h.get? b = some u → h'.get? b = some u) (hp : h.objs.size ≤ a) (hn : H a = none) : Un fs ex H (upd H a o) h h' where
  keep := fun b u q _ _ _ => k b u q
  slot := fun b u q _ _ _ => ⟨u.slots, k b u q⟩
  free := fun b u q n _ => by rw [upd_ne (Nat.ne_of_lt (Nat.lt_of_lt_of_le (Heap.lt_size q) hp))]; exact n
  there := fun b u q _ => ⟨u, k b u q⟩
  tups := fun b xs q => by rw [upd_ne (ne_of_none q hn)]; exact q
  frzs := fun b u xs q => by rw [upd_ne (ne_of_none q hn)]; exact q
  tbls := fun b ps q => ⟨#[], by rw [upd_ne (ne_of_none q hn), q]; simp⟩
theorem Un.write (mu : Mut (H x)) (he : e = x ∨ H e = some (.own x)) (k : ∀ b u, b ≠ e → h.get? b = some u → h'.get? b = some u) (heo : ∃ u, h'.get? e = some u) : Un fs ex H (upd H x o) h h' := by
  have hx : ∀ b, H b = none → b ≠ x := fun b n z => by subst z; rw [n] at mu; exact mu
  have hb : ∀ b, H b = none → b ≠ e := fun b n z => by
    subst z
    rcases he with r | r
    · exact hx b n r
    · rw [n] at r; cases r
  have hm : ∀ b u, H b = some u → ¬ Mut (some u) → b ≠ x := fun b u q nm z => by subst z; rw [q] at mu; exact nm mu
  refine ⟨fun b u q n _ _ => k b u (hb b n) q, fun b u q n _ _ => ⟨u.slots, k b u (hb b n) q⟩, fun b u q n _ => by rw [upd_ne (hx b n)]; exact n, fun b u q _ => ?_,
    fun b xs q => by rw [upd_ne (hm b _ q fun z => z)]; exact q, fun b u xs q => by rw [upd_ne (hm b _ q fun z => z)]; exact q, fun b ps q => ⟨#[], by rw [upd_ne (hm b _ q fun z => z), q]; simp⟩⟩
  by_cases hbe : b = e
  · subst hbe; exact heo
  · exact ⟨u, k b u hbe q⟩
theorem Un.mono (u : Un fs ex H H1 h h1) (hs : ∀ b ∈ fs, b ∈ fs') (hx : ∀ b ∈ ex, b ∈ ex') : Un fs' ex' H H1 h h1 :=
  ⟨fun b ob q n hb he => u.keep b ob q n (fun z => hb (hs b z)) fun z => he (hx b z), fun _ _ q n _ he => u.any q n fun z => he (hx _ z), fun b ob q n he => u.free b ob q n fun z => he (hx b z), fun b ob q he => u.there b ob q fun z => he (hx b z), u.tups, u.frzs, u.tbls⟩
end

/-! ### the heap without what is tracked -/
def trk (h : Heap) (H : Hp) : List Addr := (List.range h.objs.size).filter fun a => (H a).isSome
def hidT (h : Heap) (H : Hp) : Heap := PySem.W.hideAll h (trk h H)
theorem hidT_size (h : Heap) (H : Hp) : (hidT h H).objs.size = h.objs.size := PySem.W.hideAll_size _ _
theorem hidT_get {h : Heap} {H : Hp} {b : Addr} {o : Obj} (e : h.get? b = some o) (n : H b = none) : (hidT h H).get? b = some o :=
  PySem.W.hideAll_get _ e fun hm => by
    have q : (H b).isSome = true := (List.mem_filter.mp hm).2
    rw [n] at q; simp at q
theorem of_hidT {h : Heap} {H : Hp} {b : Addr} {o : Obj} (e : (hidT h H).get? b = some o) : h.get? b = some o ∧ H b = none := by
  have e' : h.get? b = some o := PySem.W.of_hideAll (trk h H) e
  refine ⟨e', ?_⟩
  cases q : H b with
  | none => rfl
  | some x =>
    have hm : b ∈ trk h H := List.mem_filter.mpr ⟨List.mem_range.mpr (Heap.lt_size e'), by simp [q]⟩
    have z : (hidT h H).get? b = none := PySem.W.hideAll_none (trk h H) hm
    rw [z] at e; cases e

/-! ### OpenK's ledger, filled with every new object but one -/
def allNews (g h : Heap) (L : Addr) : List (Addr × Obj) := (List.range h.objs.size).filterMap fun a => if a = L ∨ (g.get? a).isSome = true then none else (h.get? a).map fun o => (a, o)
theorem mem_allNews {g h : Heap} {L a : Addr} {o : Obj} (h1 : a ≠ L) (h2 : g.get? a = none) (h3 : h.get? a = some o) : (a, o) ∈ allNews g h L :=
  List.mem_filterMap.mpr ⟨a, List.mem_range.mpr (Heap.lt_size h3), by simp [h1, h2, h3]⟩
theorem of_mem_allNews {g h : Heap} {L : Addr} {p : Addr × Obj} (hp : p ∈ allNews g h L) : p.1 ≠ L ∧ g.get? p.1 = none ∧ h.get? p.1 = some p.2 := by
  obtain ⟨b, _, e⟩ := List.mem_filterMap.mp hp
  split at e
  · cases e
  · rename_i hn
    cases q : h.get? b with
    | none => rw [q] at e; simp at e
    | some u =>
      rw [q] at e
      simp only [Option.map_some, Option.some.injEq] at e
      subst e
      refine ⟨fun z => hn (.inl z), ?_, q⟩
      show g.get? b = none
      cases r : g.get? b with
      | none => rfl
      | some v => exact (hn (.inr (by simp [r]))).elim
def rest (g h : Heap) (L d : Addr) : List (Addr × Obj) := (allNews g h L).filter fun p => decide (p.1 ≠ d)
theorem rest_ne {g h : Heap} {L d : Addr} : ∀ p ∈ rest g h L d, p.1 ≠ d := fun p hp => of_decide_eq_true (List.mem_filter.mp hp).2
theorem mem_rest {g h : Heap} {L d a : Addr} {o : Obj} (h1 : a ≠ L) (h2 : g.get? a = none) (h3 : h.get? a = some o) (h4 : a ≠ d) : (a, o) ∈ rest g h L d :=
  List.mem_filter.mpr ⟨mem_allNews h1 h2 h3, decide_eq_true h4⟩
theorem news_all {g h : Heap} {L : Addr} : News g L h (allNews g h L) := fun p hp => let ⟨a, b, c⟩ := of_mem_allNews hp; ⟨c, a, b⟩
theorem news_at {g h : Heap} {L d : Addr} {o : Obj} (h1 : d ≠ L) (h2 : g.get? d = none) (h3 : h.get? d = some o) : News g L h ((d, o) :: rest g h L d) := fun p hp => by
  rcases List.mem_cons.mp hp with rfl | hp
  · exact ⟨h3, h1, h2⟩
  · exact news_all p (List.mem_filter.mp hp).1
/-- behind a rule that changed d alone: all else but the frame is kept -/
theorem kept_of_news {g h h' : Heap} {L d : Addr} {m : Str → Option Value} (k : ∀ b o, g.get? b = some o → h.get? b = some o) (F : Fr g L h' m) (N : News g L h' (rest g h L d)) :
    ∀ b o, b ≠ L → b ≠ d → h.get? b = some o → h'.get? b = some o := fun b o h1 h2 e => by
  cases q : g.get? b with
  | some u =>
    have := k b u q
    rw [e] at this; cases this
    exact F.keep b _ q
  | none => exact (N (b, o) (mem_rest h1 q e h2)).1
end L2

namespace L2
open PySem PySem.Spec PyProof.Rows

/-- the module's facts, over the base: the heap at the law's entry without what is tracked there -/
structure Mod (K : PySem.W.Frag) (mg : Str → Option Value) (base : Heap) : Prop where
  kin : K.In base
  glob : base.Ns mainGlobals mg
  blt : ∃ mb, base.Ns builtinsNs mb ∧ ∀ x : Str, x ≠ "__name__" → mb x = bootBuiltins x
  nolimit : base.NoLimit

/-- the context: a def's body (or a comprehension's block) running. base: fixed through the whole law; s₀, H₀: the entry; outer: the frames whose slots others may change (a def's callers); stack: all frames that run;
   ex: iterators that were made ahead of the entry and are walked here (a comprehension's); fn: the names whose cells were made at the entry (a def: all; a comprehension's block: its own); calm: not within an except suite; pn: pins that every state bears; xe: what is wanted of an exception that leaves the code -/
structure Cx where
  prog : Program
  w : World
  K : PySem.W.Frag
  mg : Str → Option Value
  base : Heap
  A : Around
  N : List Str
  s₀ : Shared
  H₀ : Hp
  env : Env
  outer : List Env
  stack : List Env
  ex : List Addr
  fn : Str → Bool
  calm : Bool
  pn : List (Addr × Obj)
  xe : Value → Shared → Prop
/-- the callers' frames -/
def frs (l : List Env) : List Addr := l.filterMap (·.frame)
abbrev Cx.fs (X : Cx) : List Addr := frs X.outer

def Vis (sc : Scope) (x : Str) : Prop := sc.names.lookup x = some .local ∨ sc.names.lookup x = some .cell ∨ sc.names.lookup x = some .free
def Loc (sc : Scope) (x : Str) : Prop := sc.names.lookup x = some .local ∨ sc.names.lookup x = some .cell
def Look (env : Env) (h : Heap) (m : Str → Option Value) (x : Str) (u : Value) : Prop :=
  (env.kindOf x = some .local ∧ m x = some u) ∨ ((env.kindOf x = some .cell ∨ env.kindOf x = some .free) ∧ ∃ c, env.cells.lookup x = some c ∧ h.IsCell c (some u))

structure Cx.Ok (X : Cx) : Prop where
  mod : Mod X.K X.mg X.base
  kind : X.env.scope.kind = .function
  glob : X.env.globals = mainGlobals
  blt : X.env.builtins = builtinsNs
  above : X.s₀.heap.objs.size ≤ X.env.locals
  inj : ∀ x y c, X.env.cells.lookup x = some c → X.env.cells.lookup y = some c → x = y
  has : ∀ x, (X.env.kindOf x = some .cell ∨ X.env.kindOf x = some .free) → ∃ c, X.env.cells.lookup x = some c
  cab : ∀ x c, X.fn x = true → X.env.cells.lookup x = some c → X.s₀.heap.objs.size ≤ c
  hd : X.calm = true → X.A.handled = none
  frames : X.A.frames = some X.stack
  stk : X.stack = X.outer ∨ (X.stack = X.env :: X.outer ∧ X.env.frame = some X.env.locals)
  exf : ∀ b ∈ X.ex, b ≠ X.env.locals ∧ ∀ x c, X.env.cells.lookup x = some c → c ≠ b
  bs : ∀ b o, X.base.get? b = some o → X.s₀.heap.get? b = some o ∧ X.H₀ b = none
  bsz : X.base.objs.size ≤ X.s₀.heap.objs.size
  noex : ∀ b o, X.base.get? b = some o → b ∉ X.ex
  exfs : ∀ b ∈ X.ex, b ∉ X.fs
  funs : X.s₀.heap.FunFrames X.base X.outer
  frf : ∀ b ∈ X.fs, X.H₀ b = none

structure Inv (X : Cx) (pins : List (Addr × Obj)) (σ : List (Option V)) (H : Hp) (s : Shared) : Prop where
  ok : X.Ok
  os : s.os = X.s₀.os
  bare : AllBare s.gens
  base : Un X.fs X.ex X.H₀ H X.s₀.heap s.heap
  loc : ∃ m, s.heap.Ns X.env.locals m ∧ ∀ (i : Nat) (x : Str) (v : V), X.N[i]? = some x → σ[i]? = some (some v) → Vis X.env.scope x → ∃ u, RelV v u ∧ Look X.env s.heap m x u
  cell : ∀ x c, X.env.cells.lookup x = some c → ∃ v, s.heap.IsCell c v
  free : H X.env.locals = none
  freeC : ∀ x c, X.env.cells.lookup x = some c → H c = none
  pin : ∀ p ∈ X.pn ++ pins, s.heap.get? p.1 = some p.2 ∧ H p.1 = none ∧ p.1 ≠ X.env.locals ∧ p.1 ∉ X.fs ∧ ∀ v, p.2.data ≠ .cell v
  hok : HOk X.prog X.w X.K H s.heap
  len : σ.length = X.N.length

section
variable {X : Cx} {pins : List (Addr × Obj)} {σ : List (Option V)} {H H' : Hp} {s : Shared} {h' : Heap}

theorem Cx.Ok.nofr (ok : X.Ok) {b : Addr} {o : Obj} (e : X.base.get? b = some o) : b ∉ X.fs := fun hb => by
  have := (ok.funs.mem hb).1
  rw [e] at this; cases this
theorem Inv.bs (I : Inv X pins σ H s) : ∀ b o, X.base.get? b = some o → s.heap.get? b = some o ∧ H b = none := fun b o e =>
  ⟨I.base.keep b o (I.ok.bs b o e).1 (I.ok.bs b o e).2 (I.ok.nofr e) (I.ok.noex b o e), I.base.free b o (I.ok.bs b o e).1 (I.ok.bs b o e).2 (I.ok.noex b o e)⟩
theorem Inv.bk (I : Inv X pins σ H s) : ∀ b o, X.base.get? b = some o → s.heap.get? b = some o := fun b o e => (I.bs b o e).1
theorem Inv.mod (I : Inv X pins σ H s) : Mod X.K X.mg X.base := I.ok.mod
theorem Inv.kIn (I : Inv X pins σ H s) : X.K.In s.heap := I.ok.mod.kin.keeps I.bk
theorem Inv.nolimit (I : Inv X pins σ H s) : s.heap.NoLimit := I.ok.mod.nolimit.keeps I.bk
/-- the frame over the base: for OpenK's rules (K.In X.base is I.mod.kin) -/
theorem Inv.fr (I : Inv X pins σ H s) : ∃ m, Fr X.base X.env.locals s.heap m :=
  let ⟨m, hn, _⟩ := I.loc
  ⟨m, hn, I.bk, Nat.le_trans I.ok.bsz I.ok.above⟩
theorem Inv.lt (I : Inv X pins σ H s) : X.env.locals < s.heap.objs.size := let ⟨_, hn, _⟩ := I.loc; hn.lt
theorem Inv.sz (I : Inv X pins σ H s) : X.s₀.heap.objs.size ≤ s.heap.objs.size := Nat.le_trans I.ok.above (Nat.le_of_lt I.lt)
theorem Inv.nofs (I : Inv X pins σ H s) {a : Addr} (h : s.heap.objs.size ≤ a) : a ∉ X.fs := fun hb => by
  obtain ⟨_, o, ho, _⟩ := I.ok.funs.mem hb
  exact absurd (Nat.lt_of_lt_of_le (Heap.lt_size ho) (Nat.le_trans I.sz h)) (Nat.lt_irrefl _)
theorem Inv.cne (I : Inv X pins σ H s) : ∀ x c, X.env.cells.lookup x = some c → c ≠ X.env.locals := fun x c e z => by
  obtain ⟨v, o, ho, hd⟩ := I.cell x c e
  obtain ⟨m, ⟨o', es, ep, ho', hd', _⟩, _⟩ := I.loc
  rw [z, ho'] at ho; cases ho; rw [hd'] at hd; cases hd
theorem Inv.funs (I : Inv X pins σ H s) : s.heap.FunFrames X.base X.outer := by
  have all : ∀ (l : List Env), (∀ b ∈ frs l, b ∈ X.fs) → X.s₀.heap.FunFrames X.base l → s.heap.FunFrames X.base l := by
    intro l
    induction l with
    | nil => intro _ _; trivial
    | cons env r ih =>
      intro hs hl
      obtain ⟨hk, ⟨L, o, hf, hn, ho, hd⟩, hr⟩ := hl
      have hL : L ∈ X.fs := hs L (by unfold frs; rw [List.filterMap_cons, hf]; exact List.mem_cons_self)
      obtain ⟨sl, e⟩ := I.base.slot L o ho (I.ok.frf L hL) hL fun z => I.ok.exfs L z hL
      exact ⟨hk, ⟨L, _, hf, hn, e, hd⟩, ih (fun b hb => hs b (by unfold frs; rw [List.filterMap_cons, hf]; exact List.mem_cons_of_mem _ hb)) hr⟩
  exact all X.outer (fun _ hb => hb) I.ok.funs

/-- the frames that run, for a call -/
theorem Inv.stack (I : Inv X pins σ H s) : s.heap.FunFrames X.base X.stack := by
  rcases I.ok.stk with e | ⟨e, hf⟩
  · rw [e]; exact I.funs
  · rw [e]
    obtain ⟨m, hn, _⟩ := I.loc
    refine .cons (by rw [I.ok.kind]; decide) hf hn ?_ I.funs
    exact Heap.get?_none_of_le (Nat.le_trans I.ok.bsz I.ok.above)
theorem Inv.stkSub (I : Inv X pins σ H s) : ∀ b ∈ frs X.stack, b ∈ X.env.locals :: X.fs := fun b hb => by
  rcases I.ok.stk with e | ⟨e, hf⟩
  · rw [e] at hb; exact List.mem_cons_of_mem _ hb
  · rw [e] at hb
    unfold frs at hb
    rw [List.filterMap_cons, hf] at hb
    exact hb
theorem Inv.stkFree (I : Inv X pins σ H s) : ∀ b ∈ frs X.stack, H b = none := fun b hb => by
  rcases List.mem_cons.mp (I.stkSub b hb) with e | hb
  · rw [e]; exact I.free
  · obtain ⟨_, o, ho, _⟩ := I.ok.funs.mem hb
    exact I.base.free b o ho (I.ok.frf b hb) fun z => I.ok.exfs b z hb

/-- THE STEP: the untracked objects but the frame and the records at ch are kept (the callers' frames up to slots), the frame's map is kept, the new abstract heap is held -/
theorem Inv.step {g' : Array GenState} {t' : Nat} {d' : Drawn} {ch : List Addr} (I : Inv X pins σ H s)
    (hch : ∀ b ∈ ch, (b ∈ X.ex ∨ X.s₀.heap.objs.size ≤ b) ∧ b ≠ X.env.locals ∧ (∀ x c, X.env.cells.lookup x = some c → c ≠ b) ∧ ∀ p ∈ X.pn ++ pins, p.1 ≠ b)
    (keep : ∀ b o, b ≠ X.env.locals → b ∉ X.fs → b ∉ ch → s.heap.get? b = some o → H b = none → h'.get? b = some o)
    (slot : ∀ b o, b ≠ X.env.locals → b ∈ X.fs → b ∉ ch → s.heap.get? b = some o → H b = none → ∃ sl, h'.get? b = some { o with slots := sl }) (free : ∀ b o, b ∉ ch → s.heap.get? b = some o → H b = none → H' b = none)
    (there : ∀ b o, b ∉ ch → s.heap.get? b = some o → ∃ o', h'.get? b = some o')
    (tups : ∀ b xs, H b = some (.tup xs) → H' b = some (.tup xs)) (frzs : ∀ b o u, H b = some (.frz o u) → H' b = some (.frz o u)) (tbls : ∀ b ps, H b = some (.tbl ps) → ∃ more, H' b = some (.tbl (ps ++ more)))
    (ns : ∀ m, s.heap.Ns X.env.locals m → h'.Ns X.env.locals m) (hok : HOk X.prog X.w X.K H' h') (hg : AllBare g') :
    Inv X pins σ H' { s with heap := h', gens := g', drawn := d', toks := t' } := by
  have neL : ∀ b o, X.s₀.heap.get? b = some o → b ≠ X.env.locals := fun b o e => Nat.ne_of_lt (Nat.lt_of_lt_of_le (Heap.lt_size e) I.ok.above)
  have neC : ∀ b o, X.s₀.heap.get? b = some o → b ∉ X.ex → b ∉ ch := fun b o e hx hb => by
    rcases (hch b hb).1 with z | z
    · exact hx z
    · exact absurd (Nat.lt_of_lt_of_le (Heap.lt_size e) z) (Nat.lt_irrefl _)
  have cellK : ∀ x c, X.env.cells.lookup x = some c → ∀ v, s.heap.IsCell c v → h'.IsCell c v := fun x c e v ⟨o, ho, hd⟩ => by
    have nch : c ∉ ch := fun z => (hch c z).2.2.1 x c e rfl
    by_cases hc : c ∈ X.fs
    · obtain ⟨sl, q⟩ := slot c o (I.cne x c e) hc nch ho (I.freeC x c e)
      exact ⟨_, q, hd⟩
    · exact ⟨o, keep c o (I.cne x c e) hc nch ho (I.freeC x c e), hd⟩
  refine ⟨I.ok, I.os, hg, ⟨fun b o e n hb hx => ?_, fun b o e n hb hx => ?_, fun b o e n hx => ?_, fun b o e hx => ?_, fun b xs e => tups b xs (I.base.tups b xs e), fun b o xs e => frzs b o xs (I.base.frzs b o xs e), fun b ps e => ?_⟩, ?_, fun x c e => ?_, ?_, fun x c e => ?_, fun p hp => ?_, hok, I.len⟩
  · exact keep b o (neL b o e) hb (neC b o e hx) (I.base.keep b o e n hb hx) (I.base.free b o e n hx)
  · obtain ⟨sl, e1⟩ := I.base.slot b o e n hb hx
    obtain ⟨sl', e2⟩ := slot b _ (neL b o e) hb (neC b o e hx) e1 (I.base.free b o e n hx)
    exact ⟨sl', e2⟩
  · obtain ⟨o', e1⟩ := I.base.there b o e hx
    exact free b o' (neC b o e hx) e1 (I.base.free b o e n hx)
  · obtain ⟨o', e1⟩ := I.base.there b o e hx
    exact there b o' (neC b o e hx) e1
  · obtain ⟨m1, e1⟩ := I.base.tbls b ps e
    obtain ⟨m2, e2⟩ := tbls b _ e1
    exact ⟨m1 ++ m2, by rw [e2, Array.append_assoc]⟩
  · obtain ⟨m, hn, hl⟩ := I.loc
    refine ⟨m, ns m hn, fun i x v e1 e2 e3 => ?_⟩
    obtain ⟨u, r, l⟩ := hl i x v e1 e2 e3
    refine ⟨u, r, ?_⟩
    rcases l with l | ⟨k, c, e, z⟩
    · exact .inl l
    · exact .inr ⟨k, c, e, cellK x c e _ z⟩
  · obtain ⟨v, z⟩ := I.cell x c e
    exact ⟨v, cellK x c e v z⟩
  · obtain ⟨m, ⟨o, _, _, ho, _⟩, _⟩ := I.loc
    exact free _ o (fun z => (hch _ z).2.1 rfl) ho I.free
  · obtain ⟨v, o, ho, hd⟩ := I.cell x c e
    exact free c o (fun z => (hch c z).2.2.1 x c e rfl) ho (I.freeC x c e)
  · obtain ⟨e, n, ne, nf, d⟩ := I.pin p hp
    have nch : p.1 ∉ ch := fun z => (hch p.1 z).2.2.2 p hp rfl
    exact ⟨keep p.1 p.2 ne nf nch e n, free p.1 p.2 nch e n, ne, nf, d⟩
/-- .. where the frame's own object is kept too -/
theorem Inv.un {t' : Nat} (I : Inv X pins σ H s) (u : Un X.fs [] H H' s.heap h') (hok : HOk X.prog X.w X.K H' h') : Inv X pins σ H' { s with heap := h', toks := t' } := by
  obtain ⟨m, ⟨o, es, ep, ho, r⟩, _⟩ := id I.loc
  obtain ⟨sl, hL⟩ := u.any ho I.free (by simp)
  exact I.step (g' := s.gens) (d' := s.drawn) (ch := []) (fun _ z => nomatch z) (fun b o _ hb _ e n => u.keep b o e n hb (by simp)) (fun b o _ hb _ e n => u.slot b o e n hb (by simp)) (fun b o _ e n => u.free b o e n (by simp)) (fun b o _ e => u.there b o e (by simp)) u.tups u.frzs u.tbls (fun m' hm => by
    obtain ⟨o', es', ep', ho', r'⟩ := hm
    rw [ho] at ho'; cases ho'
    exact ⟨_, es', ep', hL, r'⟩) hok I.bare
/-- behind a call (or a comprehension's block): the slots of this frame may have changed too, the records at ch may have turned -/
theorem Inv.call {g' : Array GenState} {t' : Nat} {d' : Drawn} {ch : List Addr} (I : Inv X pins σ H s) (u : Un (frs X.stack) ch H H' s.heap h') (hok : HOk X.prog X.w X.K H' h') (hg : AllBare g')
    (hch : ∀ b ∈ ch, (b ∈ X.ex ∨ X.s₀.heap.objs.size ≤ b) ∧ b ≠ X.env.locals ∧ (∀ x c, X.env.cells.lookup x = some c → c ≠ b) ∧ ∀ p ∈ X.pn ++ pins, p.1 ≠ b) :
    Inv X pins σ H' { s with heap := h', gens := g', drawn := d', toks := t' } := by
  obtain ⟨m, ⟨o, es, ep, ho, r⟩, _⟩ := id I.loc
  obtain ⟨sl, hL⟩ := u.any ho I.free fun z => (hch _ z).2.1 rfl
  exact I.step (ch := ch) hch (fun b o hL hb hc e n => u.keep b o e n (fun z => (List.mem_cons.mp (I.stkSub b z)).elim hL hb) hc) (fun b o _ _ hc e n => u.any e n hc) (fun b o hc e n => u.free b o e n hc) (fun b o hc e => u.there b o e hc) u.tups u.frzs u.tbls (fun m' hm => by
    obtain ⟨o', es', ep', ho', r'⟩ := hm
    rw [ho] at ho'; cases ho'
    exact ⟨_, es', ep', hL, r'⟩) hok hg
/-- an untracked record of ours (an iterator) has turned -/
theorem Inv.turned {t' : Nat} {it : Addr} (I : Inv X pins σ H s) (k : ∀ b o, b ≠ it → s.heap.get? b = some o → h'.get? b = some o) (hn : H it = none) (hL : it ≠ X.env.locals)
    (h1 : it ∈ X.ex ∨ X.s₀.heap.objs.size ≤ it) (h2 : ∀ x c, X.env.cells.lookup x = some c → c ≠ it) (h3 : ∀ p ∈ X.pn ++ pins, p.1 ≠ it) : Inv X pins σ H { s with heap := h', toks := t' } := by
  have nit : ∀ b u, H b = some u → b ≠ it := fun b u e z => by rw [z, hn] at e; cases e
  refine I.step (g' := s.gens) (d' := s.drawn) (ch := [it]) (fun b hb => ?_) (fun b o _ _ hc e _ => k b o (fun z => hc (by simp [z])) e) (fun b o _ _ hc e _ => ⟨o.slots, k b o (fun z => hc (by simp [z])) e⟩) (fun _ _ _ _ n => n)
    (fun b o hc e => ⟨o, k b o (fun z => hc (by simp [z])) e⟩) (fun _ _ e => e) (fun _ _ _ e => e) (fun b ps e => ⟨#[], by rw [e]; simp⟩) (fun m hm => ?_) (fun b u e => ?_) I.bare
  · have e : b = it := by simpa using hb
    subst e
    exact ⟨h1, hL, h2, h3⟩
  · obtain ⟨o, es, ep, ho, r⟩ := hm
    exact ⟨o, es, ep, k _ o (Ne.symm hL) ho, r⟩
  · refine (I.hok b u e).stay (fun c v hc q => k c v ?_ q) (fun _ q => q) fun _ _ q => q
    rcases hc with z | z
    · rw [z]; exact nit b u e
    · exact nit c _ z
theorem Inv.tok (I : Inv X pins σ H s) (t : Nat) : Inv X pins σ H { s with toks := t } := I.un (h' := s.heap) (t' := t) Un.refl I.hok
/-- all objects kept -/
theorem Inv.kept {t' : Nat} (I : Inv X pins σ H s) (k : ∀ b u, s.heap.get? b = some u → h'.get? b = some u) : Inv X pins σ H { s with heap := h', toks := t' } := I.un (Un.kept k) (I.hok.kept k)
/-- a new object laid and tracked -/
theorem Inv.laid {a : Addr} {o : HO} {t' : Nat} (I : Inv X pins σ H s) (k : ∀ b u, s.heap.get? b = some u → h'.get? b = some u) (hp : s.heap.objs.size ≤ a) (new : ObjOk X.prog X.w X.K (upd H a o) h' a o) :
    Inv X pins σ (upd H a o) { s with heap := h', toks := t' } := I.un (Un.laid k hp (I.hok.fresh hp)) (I.hok.laid k hp new)
/-- an object written -/
theorem Inv.write {x e : Addr} {o : HO} {t' : Nat} (I : Inv X pins σ H s) (mu : Mut (H x)) (he : e = x ∨ H e = some (.own x)) (k : ∀ b u, b ≠ e → s.heap.get? b = some u → h'.get? b = some u) (heo : ∃ u, h'.get? e = some u)
    (new : ObjOk X.prog X.w X.K (upd H x o) h' x o) : Inv X pins σ (upd H x o) { s with heap := h', toks := t' } := I.un (Un.write mu he k heo) (I.hok.write mu he k heo new)
/-- forgetting slots, pins -/
theorem Inv.weak {σ' : List (Option V)} (I : Inv X pins σ H s) (hl : σ'.length = σ.length) (w : ∀ (i : Nat) v, σ'[i]? = some (some v) → σ[i]? = some (some v)) : Inv X pins σ' H s :=
  ⟨I.ok, I.os, I.bare, I.base, let ⟨m, hn, hl'⟩ := I.loc; ⟨m, hn, fun i x v e1 e2 e3 => hl' i x v e1 (w i v e2) e3⟩, I.cell, I.free, I.freeC, I.pin, I.hok, hl.trans I.len⟩
theorem Inv.pins_of {pins' : List (Addr × Obj)} (I : Inv X pins σ H s) (h : ∀ p ∈ pins', s.heap.get? p.1 = some p.2 ∧ H p.1 = none ∧ p.1 ≠ X.env.locals ∧ p.1 ∉ X.fs ∧ ∀ v, p.2.data ≠ .cell v) : Inv X pins' σ H s :=
  ⟨I.ok, I.os, I.bare, I.base, I.loc, I.cell, I.free, I.freeC, fun p hp => (List.mem_append.mp hp).elim (fun z => I.pin p (List.mem_append_left _ z)) (h p), I.hok, I.len⟩

theorem nodup_ix {N : List Str} (hN : N.Nodup) {i j : Nat} {x : Str} (a : N[i]? = some x) (b : N[j]? = some x) : i = j := by
  obtain ⟨h1, e1⟩ := List.getElem?_eq_some_iff.mp a
  obtain ⟨h2, e2⟩ := List.getElem?_eq_some_iff.mp b
  exact (List.getElem_inj hN).mp (e1.trans e2.symm)

/-- a name is stored; what changed -/
theorem store_ok2 {M : Model} {A : Around} {E : Value → Shared → Prop} {i : Nat} {x : Str} {v : V} {u : Value} {Q : Unit → Shared → Prop} (I : Inv X pins σ H s) (hN : X.N.Nodup) (hi : X.N[i]? = some x) (hx : Loc X.env.scope x) (r : RelV v u)
    (h : ∀ s', Inv X pins (σ.set i (some v)) H s' → (∃ a, Heap.SameBut a s.heap s'.heap ∧ (a = X.env.locals ∨ X.env.cells.lookup x = some a)) → Q () s') (hf : X.fn x = true ∨ X.env.scope.names.lookup x = some .local := by first | exact .inl rfl | exact .inr rfl | assumption) : wpAny M A (storeName X.env x u) Q E s := by
  obtain ⟨m, hn, hl⟩ := id I.loc
  have hcls : (X.env.scope.kind == .class || (X.env.scope.kind == .module && X.env.locals != X.env.globals)) = false := by rw [I.ok.kind]; rfl
  have hiσ : i < σ.length := by rw [I.len]; exact (List.getElem?_eq_some_iff.mp hi).1
  have cne := I.cne
  have tracked : ∀ {a : Addr} {h' : Heap}, (∃ o, s.heap.get? a = some o ∧ H a = none) → Heap.SameBut a s.heap h' → HOk X.prog X.w X.K H h' := fun {a h'} ha hs b ob e => by
    obtain ⟨_, _, hfree⟩ := ha
    refine (I.hok b ob e).stay (fun c w' hc q => (hs.2 c ?_).trans q) (fun _ q => q) fun _ _ q => q
    rintro rfl
    rcases hc with rfl | hc
    · rw [hfree] at e; cases e
    · rw [hfree] at hc; cases hc
  rcases hx with hk | hk
  · refine wpAny_storeName_local hk hn (fun h' hn' hs => ?_) hcls
    obtain ⟨oL, _, _, hoL, _⟩ := id hn
    refine h _ ⟨I.ok, I.os, I.bare, ⟨fun b o e n hb hx => ?_, fun b o e n hb hx => ?_, I.base.free, fun b o e hx => ?_, I.base.tups, I.base.frzs, I.base.tbls⟩, ⟨_, hn', fun j y v' e1 e2 e3 => ?_⟩, fun y c e => ?_, I.free, I.freeC, fun p hp => ?_, tracked ⟨oL, hoL, I.free⟩ hs, by simpa using I.len⟩ ⟨_, hs, .inl rfl⟩
    · exact (hs.2 b (Nat.ne_of_lt (Nat.lt_of_lt_of_le (Heap.lt_size e) I.ok.above))).trans (I.base.keep b o e n hb hx)
    · obtain ⟨sl, e1⟩ := I.base.slot b o e n hb hx
      exact ⟨sl, (hs.2 b (Nat.ne_of_lt (Nat.lt_of_lt_of_le (Heap.lt_size e) I.ok.above))).trans e1⟩
    · obtain ⟨o', e1⟩ := I.base.there b o e hx
      exact ⟨o', (hs.2 b (Nat.ne_of_lt (Nat.lt_of_lt_of_le (Heap.lt_size e) I.ok.above))).trans e1⟩
    · by_cases hj : j = i
      · subst hj
        rw [hi] at e1; cases e1
        rw [List.getElem?_set_self hiσ] at e2
        cases e2
        exact ⟨u, r, .inl ⟨hk, by simp⟩⟩
      · rw [List.getElem?_set_ne (Ne.symm hj)] at e2
        obtain ⟨u', r', q⟩ := hl j y v' e1 e2 e3
        refine ⟨u', r', ?_⟩
        rcases q with ⟨k, e⟩ | ⟨k, c, e, z⟩
        · refine .inl ⟨k, ?_⟩
          have : y ≠ x := fun e => hj (nodup_ix hN e1 (e ▸ hi))
          simp [this, e]
        · exact .inr ⟨k, c, e, z.sameBut hs (cne y c e)⟩
    · obtain ⟨w', z⟩ := I.cell y c e
      exact ⟨w', z.sameBut hs (cne y c e)⟩
    · obtain ⟨e, n, ne, nf, d⟩ := I.pin p hp
      exact ⟨(hs.2 p.1 ne).trans e, n, ne, nf, d⟩
  · have hfn : X.fn x = true := by
      rcases hf with z | z
      · exact z
      · rw [z] at hk; cases hk
    obtain ⟨c, hc⟩ := I.ok.has x (.inl hk)
    obtain ⟨w', z⟩ := I.cell x c hc
    refine wpAny_storeName_cell I.ok.kind hk hc z (fun h' hc' hs => ?_)
    obtain ⟨oc, hoc, hocd⟩ := id z
    refine h { s with heap := h' } ⟨I.ok, I.os, I.bare, ⟨fun b o e n hb hx => ?_, fun b o e n hb hx => ?_, I.base.free, fun b o e hx => ?_, I.base.tups, I.base.frzs, I.base.tbls⟩, ⟨m, hn.sameBut hs (Ne.symm (cne x c hc)), fun j y v' e1 e2 e3 => ?_⟩, fun y c' e => ?_, I.free, I.freeC, fun p hp => ?_, tracked ⟨oc, hoc, I.freeC x c hc⟩ hs, by simpa using I.len⟩ ⟨c, hs, .inr hc⟩
    · exact (hs.2 b (Nat.ne_of_lt (Nat.lt_of_lt_of_le (Heap.lt_size e) (I.ok.cab x c hfn hc)))).trans (I.base.keep b o e n hb hx)
    · obtain ⟨sl, e1⟩ := I.base.slot b o e n hb hx
      exact ⟨sl, (hs.2 b (Nat.ne_of_lt (Nat.lt_of_lt_of_le (Heap.lt_size e) (I.ok.cab x c hfn hc)))).trans e1⟩
    · obtain ⟨o', e1⟩ := I.base.there b o e hx
      exact ⟨o', (hs.2 b (Nat.ne_of_lt (Nat.lt_of_lt_of_le (Heap.lt_size e) (I.ok.cab x c hfn hc)))).trans e1⟩
    · by_cases hj : j = i
      · subst hj
        rw [hi] at e1; cases e1
        rw [List.getElem?_set_self hiσ] at e2
        cases e2
        exact ⟨u, r, .inr ⟨.inl hk, c, hc, hc'⟩⟩
      · rw [List.getElem?_set_ne (Ne.symm hj)] at e2
        obtain ⟨u', r', q⟩ := hl j y v' e1 e2 e3
        refine ⟨u', r', ?_⟩
        rcases q with q | ⟨k, c', e, z'⟩
        · exact .inl q
        · refine .inr ⟨k, c', e, z'.sameBut hs ?_⟩
          rintro rfl
          exact hj (nodup_ix hN e1 (I.ok.inj _ _ _ e hc ▸ hi))
    · by_cases hcc : c' = c
      · subst hcc; exact ⟨_, hc'⟩
      · obtain ⟨w2, z2⟩ := I.cell y c' e
        exact ⟨w2, z2.sameBut hs hcc⟩
    · obtain ⟨e, n, ne, nf, d⟩ := I.pin p hp
      refine ⟨(hs.2 p.1 ?_).trans e, n, ne, nf, d⟩
      intro q
      rw [q, hoc] at e
      have q' : oc = p.2 := Option.some.inj e
      exact d w' (by rw [← q']; exact hocd)
theorem store_ok {M : Model} {A : Around} {E : Value → Shared → Prop} {i : Nat} {x : Str} {v : V} {u : Value} {Q : Unit → Shared → Prop} (I : Inv X pins σ H s) (hN : X.N.Nodup) (hi : X.N[i]? = some x) (hx : Loc X.env.scope x) (r : RelV v u)
    (h : ∀ s', Inv X pins (σ.set i (some v)) H s' → Q () s') (hf : X.fn x = true ∨ X.env.scope.names.lookup x = some .local := by first | exact .inl rfl | exact .inr rfl | assumption) : wpAny M A (storeName X.env x u) Q E s :=
  store_ok2 I hN hi hx r (fun s' I' _ => h s' I') hf
/-- behind a call or a block, the state as it is -/
theorem Inv.call' {s' : Shared} {ch : List Addr} (I : Inv X pins σ H s) (ho : s'.os = s.os) (u : Un (frs X.stack) ch H H' s.heap s'.heap) (hok : HOk X.prog X.w X.K H' s'.heap) (hg : AllBare s'.gens)
    (hch : ∀ b ∈ ch, (b ∈ X.ex ∨ X.s₀.heap.objs.size ≤ b) ∧ b ≠ X.env.locals ∧ (∀ x c, X.env.cells.lookup x = some c → c ≠ b) ∧ ∀ p ∈ X.pn ++ pins, p.1 ≠ b) : Inv X pins σ H' s' := by
  obtain ⟨h', g', d', t', o'⟩ := s'
  have e : o' = s.os := ho
  subst e
  exact I.call (g' := g') (t' := t') (d' := d') u hok hg hch
end

/-! ### the judgements -/
/-- an exception: its class, its own dict's address (where it has one), the abstract heap behind it -/
abbrev XK := Value → Option Addr → Hp → Prop
abbrev St := List (Option V)
abbrev VK := V → Hp → Prop
/-- an expression's reading; a test's; an argument list's -/
abbrev TE := St → Hp → VK → Prop
abbrev TT := St → Hp → (Bool → Hp → Prop) → Prop
abbrev TA := St → Hp → (List V → Hp → Prop) → Prop
/-- what is wanted behind a statement -/
structure Ends where
  nx : St → Hp → Prop
  rt : VK
  bk : St → Hp → Prop := fun _ _ => False
  ct : St → Hp → Prop := fun _ _ => False
abbrev TS := Ends → St → Hp → Prop

def EP (X : Cx) (pins : List (Addr × Obj)) (σ : St) (Q : VK) (u : Value) (s' : Shared) : Prop := ∃ v H', Inv X pins σ H' s' ∧ RelV v u ∧ Q v H'
def TP (X : Cx) (pins : List (Addr × Obj)) (σ : St) (Q : Bool → Hp → Prop) (b : Bool) (s' : Shared) : Prop := ∃ H', Inv X pins σ H' s' ∧ Q b H'
def AP (X : Cx) (pins : List (Addr × Obj)) (σ : St) (Q : List V → Hp → Prop) (us : List Value) (s' : Shared) : Prop := ∃ vs H', Inv X pins σ H' s' ∧ Vals vs us ∧ Q vs H'
def SP (X : Cx) (pins : List (Addr × Obj)) (D : Ends) (f : Flow) (s' : Shared) : Prop :=
  match f with
  | .next => ∃ σ' H', Inv X pins σ' H' s' ∧ D.nx σ' H'
  | .brk => ∃ σ' H', Inv X pins σ' H' s' ∧ D.bk σ' H'
  | .cont => ∃ σ' H', Inv X pins σ' H' s' ∧ D.ct σ' H'
  | .ret u => ∃ v σ' H', Inv X pins σ' H' s' ∧ RelV v u ∧ D.rt v H'

def PE (X : Cx) (e : Expr) (t : TE) : Prop :=
  ∀ (pins : List (Addr × Obj)) (s : Shared) (σ : St) (H : Hp) (Q : VK), Inv X pins σ H s → t σ H Q → wpAny (model X.prog X.w) X.A (eval e X.env) (EP X pins σ Q) X.xe s
def PT (X : Cx) (e : Expr) (t : TT) : Prop :=
  ∀ (pins : List (Addr × Obj)) (s : Shared) (σ : St) (H : Hp) (Q : Bool → Hp → Prop), Inv X pins σ H s → t σ H Q → wpAny (model X.prog X.w) X.A (isTrue e X.env (eval e X.env)) (TP X pins σ Q) X.xe s
/-- a test whatever its 'whole' is (and, or) -/
def PW (X : Cx) (e : Expr) (t : TT) : Prop :=
  ∀ (whole : Sem Value) (pins : List (Addr × Obj)) (s : Shared) (σ : St) (H : Hp) (Q : Bool → Hp → Prop), Inv X pins σ H s → t σ H Q → wpAny (model X.prog X.w) X.A (isTrue e X.env whole) (TP X pins σ Q) X.xe s
theorem PW.pt {X : Cx} {e : Expr} {t : TT} (h : PW X e t) : PT X e t := h _
/-- an argument list (no star), from the left -/
def PA (X : Cx) (es : List Expr) (t : TA) : Prop :=
  ∀ (pos : Pos) (pins : List (Addr × Obj)) (s : Shared) (σ : St) (H : Hp) (Q : List V → Hp → Prop), Inv X pins σ H s → t σ H Q → wpAny (model X.prog X.w) X.A (spliced (backTo pos (starEach es X.env))) (AP X pins σ Q) X.xe s
def PS (X : Cx) (st : Stmt) (t : TS) : Prop :=
  ∀ (pins : List (Addr × Obj)) (s : Shared) (σ : St) (H : Hp) (D : Ends), Inv X pins σ H s → t D σ H → wpAny (model X.prog X.w) X.A (exec st X.env) (SP X pins D) X.xe s
def PSs (X : Cx) (st : List Stmt) (t : TS) : Prop :=
  ∀ (pins : List (Addr × Obj)) (s : Shared) (σ : St) (H : Hp) (D : Ends), Inv X pins σ H s → t D σ H → wpAny (model X.prog X.w) X.A (execs st X.env) (SP X pins D) X.xe s
/-- weaken the end -/
theorem thn {α : Type} {t : Sem α} {Q Q' : α → Shared → Prop} {M : Model} {A : Around} {E : Value → Shared → Prop} {s : Shared} (h : wpAny M A t Q E s) (hQ : ∀ a s, Q a s → Q' a s) : wpAny M A t Q' E s := wpAny_mono h hQ fun _ _ x => x
end L2

namespace L2
open PySem PySem.Spec PyProof.Rows
section
variable {X : Cx}

/-- two expressions in a row -/
theorem bin {a b : Expr} {ta tb : TE} (ha : PE X a ta) (hb : PE X b tb) {pins : List (Addr × Obj)} {s : Shared} {σ : St} {H : Hp} {R : V → V → Hp → Prop} (I : Inv X pins σ H s) (h : ta σ H fun x H1 => tb σ H1 fun y H2 => R x y H2)
    {α : Type} {Q : α → Shared → Prop} {f : Value → Value → Sem α}
    (hf : ∀ v u s2 x y H2, Inv X pins σ H2 s2 → RelV x v → RelV y u → R x y H2 → wpAny (model X.prog X.w) X.A (f v u) Q X.xe s2) :
    wpAny (model X.prog X.w) X.A (eval a X.env) (fun v s₁ => wpAny (model X.prog X.w) X.A (eval b X.env) (fun u s₂ => wpAny (model X.prog X.w) X.A (f v u) Q X.xe s₂) X.xe s₁) X.xe s := by
  refine thn (ha pins s σ H _ I h) fun v s1 ⟨x, H1, I1, r1, q1⟩ => ?_
  refine thn (hb pins s1 σ H1 _ I1 q1) fun u s2 ⟨y, H2, I2, r2, q2⟩ => ?_
  exact hf v u s2 x y H2 I2 r1 r2 q2

/-! ### names and constants -/
def tVar (i : Nat) : TE := fun σ H Q => ∃ v, σ[i]? = some (some v) ∧ Q v H
def tC (v : V) : TE := fun _ H Q => Q v H
theorem pe_var {i : Nat} {x : Str} {pos : Pos} (hN : X.N[i]? = some x) (hv : Vis X.env.scope x) (hd : (x == ("__debug__" : Str)) = false := by decide) (hcd : (x == ("__classdict__" : Str)) = false := by decide) : PE X (.Name x pos) (tVar i) := by
  intro pins s σ H Q I h
  obtain ⟨v, e, h⟩ := h
  obtain ⟨m, hn, hl⟩ := I.loc
  obtain ⟨u, r, l⟩ := hl i x v hN e hv
  have fin : EP X pins σ Q u s := ⟨v, H, I, r, h⟩
  rcases l with ⟨hk, hm⟩ | ⟨hk, c, hc, hcell⟩
  · exact wpAny_Name (wpAny_loadName_local I.ok.kind hk hn hm fin) hd
  · rcases hk with hk | hk
    · exact wpAny_Name (wpAny_loadName_cell I.ok.kind hk hc hcell fin) hd
    · exact wpAny_Name (wpAny_loadName_free I.ok.kind hk hc hcell fin hcd) hd
theorem pe_int {i j pos} : PE X (.Constant (.int i) j pos) (tC (.int i)) := fun _ _ _ H _ I h => wpAny_Constant_int ⟨.int i, H, I.tok _, ⟨_, rfl⟩, h⟩
theorem pe_bl {b j pos} : PE X (.Constant (.bool b) j pos) (tC (.bl b)) := fun _ _ _ H _ I h => Constant_bool ⟨.bl b, H, I, rfl, h⟩
theorem pe_non {j pos} : PE X (.Constant .none j pos) (tC .non) := fun _ _ _ H _ I h => Constant_none ⟨.non, H, I, rfl, h⟩
theorem pe_str {x j pos} : PE X (.Constant (.str x) j pos) (tC (.str x)) := fun _ _ _ H _ I h => Calls.Constant_str ⟨.str x, H, I.tok _, ⟨_, rfl⟩, h⟩

/-- a global name of the def -/
def Gl (X : Cx) (x : Str) : Prop := X.env.kindOf x = some .globalImplicit
theorem ld_glob {E : Value → Shared → Prop} {pins : List (Addr × Obj)} {s : Shared} {σ : St} {H : Hp} {x : Str} {u : Value} {pos : Pos} {Q : Value → Shared → Prop} (I : Inv X pins σ H s) (hg : Gl X x) (hm : X.mg x = some u) (h : Q u s)
    (hd : (x == ("__debug__" : Str)) = false := by decide) : wpAny (model X.prog X.w) X.A (eval (.Name x pos) X.env) Q E s :=
  Calls.Name_function_global I.ok.kind hg (Calls.loadGlobal_global (by rw [I.ok.glob]; exact I.mod.glob.keeps I.bk) hm h) hd
theorem ld_blt {E : Value → Shared → Prop} {pins : List (Addr × Obj)} {s : Shared} {σ : St} {H : Hp} {x : Str} {u : Value} {pos : Pos} {Q : Value → Shared → Prop} (I : Inv X pins σ H s) (hg : Gl X x) (hm : X.mg x = none) (hv : bootBuiltins x = some u) (h : Q u s)
    (hn : x ≠ "__name__" := by decide) (hd : (x == ("__debug__" : Str)) = false := by decide) : wpAny (model X.prog X.w) X.A (eval (.Name x pos) X.env) Q E s := by
  obtain ⟨mb, h1, h2⟩ := I.mod.blt
  exact Calls.Name_function_global I.ok.kind hg (Calls.loadGlobal_builtin (by rw [I.ok.glob]; exact I.mod.glob.keeps I.bk) hm (by rw [I.ok.blt]; exact h1.keeps I.bk) ((h2 x hn).trans hv) h) hd
/-- a module's constant, a class, a function, as a value -/
theorem pe_glob {x : Str} {v : V} {u : Value} {pos : Pos} (hg : Gl X x) (hm : X.mg x = some u) (r : RelV v u) (hd : (x == ("__debug__" : Str)) = false := by decide) : PE X (.Name x pos) (tC v) :=
  fun _ _ _ H _ I h => ld_glob I hg hm ⟨v, H, I, r, h⟩ hd
theorem pe_bltn {x : Str} {v : V} {u : Value} {pos : Pos} (hg : Gl X x) (hm : X.mg x = none) (hv : bootBuiltins x = some u) (r : RelV v u) (hn : x ≠ "__name__" := by decide) (hd : (x == ("__debug__" : Str)) = false := by decide) : PE X (.Name x pos) (tC v) :=
  fun _ _ _ H _ I h => ld_blt I hg hm hv ⟨v, H, I, r, h⟩ hn hd

/-! ### arithmetic -/
/-- two ints -/
def t2I (ta tb : TE) (k : Int → Int → Hp → Prop) : St → Hp → Prop := fun σ H => ta σ H fun x H1 => tb σ H1 fun y H2 => ∃ i j, x = .int i ∧ y = .int j ∧ k i j H2
def tAdd (ta tb : TE) : TE := fun σ H Q => t2I ta tb (fun i j H2 => Q (.int (i + j)) H2) σ H
def tSub (ta tb : TE) : TE := fun σ H Q => t2I ta tb (fun i j H2 => Q (.int (i - j)) H2) σ H
/-- the left factor below 2^64 -/
def tMul (ta tb : TE) : TE := fun σ H Q => t2I ta tb (fun i j H2 => (-(2 ^ 64) < i ∧ i < 2 ^ 64) ∧ Q (.int (i * j)) H2) σ H
variable {a b : Expr} {ta tb : TE} {pos : Pos}
theorem pe_add (ha : PE X a ta) (hb : PE X b tb) : PE X (.BinOp a .Add b pos) (tAdd ta tb) := by
  intro pins s σ H Q I h
  refine wpAny_BinOp (bin ha hb I h fun v u s2 x y H2 I2 rx ry q => ?_)
  obtain ⟨i, j, rfl, rfl, q⟩ := q
  obtain ⟨t, rfl⟩ := rx
  obtain ⟨t', rfl⟩ := ry
  exact add_int ⟨.int _, H2, I2.tok _, ⟨_, rfl⟩, q⟩
theorem pe_sub (ha : PE X a ta) (hb : PE X b tb) : PE X (.BinOp a .Sub b pos) (tSub ta tb) := by
  intro pins s σ H Q I h
  refine wpAny_BinOp (bin ha hb I h fun v u s2 x y H2 I2 rx ry q => ?_)
  obtain ⟨i, j, rfl, rfl, q⟩ := q
  obtain ⟨t, rfl⟩ := rx
  obtain ⟨t', rfl⟩ := ry
  exact sub_int ⟨.int _, H2, I2.tok _, ⟨_, rfl⟩, q⟩
theorem pe_mul (ha : PE X a ta) (hb : PE X b tb) : PE X (.BinOp a .Mult b pos) (tMul ta tb) := by
  intro pins s σ H Q I h
  refine wpAny_BinOp (bin ha hb I h fun v u s2 x y H2 I2 rx ry q => ?_)
  obtain ⟨i, j, rfl, rfl, ⟨q1, q2⟩, q⟩ := q
  obtain ⟨t, rfl⟩ := rx
  obtain ⟨t', rfl⟩ := ry
  exact mul_int ⟨.int _, H2, I2.tok _, ⟨_, rfl⟩, q⟩ (.of_left (intBits_le_64 q1 q2))

/-! ### comparisons -/
def PC (X : Cx) (op : CmpOp) (a b : Expr) (t : TE) : Prop :=
  ∀ (pins : List (Addr × Obj)) (s : Shared) (σ : St) (H : Hp) (Q : VK), Inv X pins σ H s → t σ H Q →
    wpAny (model X.prog X.w) X.A (eval a X.env) (fun v s₁ => wpAny (model X.prog X.w) X.A (eval b X.env) (fun u s₂ => wpAny (model X.prog X.w) X.A (compareOp op v u) (EP X pins σ Q) X.xe s₂) X.xe s₁) X.xe s
theorem nobehind (b : Expr) {op : CmpOp} (h : op ≠ .In) (h2 : op ≠ .NotIn) : behindInMarks op b = false := by
  have e1 : (op == CmpOp.In) = false := by cases op <;> first | rfl | exact absurd rfl h
  have e2 : (op == CmpOp.NotIn) = false := by cases op <;> first | rfl | exact absurd rfl h2
  cases b <;> simp [behindInMarks, e1, e2]
def tCmp (p : Int → Int → Bool) (ta tb : TE) : TE := fun σ H Q => t2I ta tb (fun i j H2 => Q (.bl (p i j)) H2) σ H
abbrev tLt : TE → TE → TE := tCmp fun i j => decide (i < j)
abbrev tLe : TE → TE → TE := tCmp fun i j => decide (i ≤ j)
abbrev tGt : TE → TE → TE := tCmp fun i j => decide (j < i)
abbrev tGe : TE → TE → TE := tCmp fun i j => decide (j ≤ i)
abbrev tEqI : TE → TE → TE := tCmp fun i j => decide (i = j)
abbrev tNeI : TE → TE → TE := tCmp fun i j => !decide (i = j)
/-- a comparison of two ints, by its rule -/
theorem pc_int {op : CmpOp} {p : Int → Int → Bool} (ha : PE X a ta) (hb : PE X b tb)
    (rule : ∀ (i j : Int) (t u : Tok) (Q : Value → Shared → Prop) (s : Shared), Q (.bool (p i j)) s → wpAny (model X.prog X.w) X.A (compareOp op (.int i t) (.int j u)) Q X.xe s) : PC X op a b (tCmp p ta tb) := by
  intro pins s σ H Q I h
  refine bin ha hb I h fun v u s2 x y H2 I2 rx ry q => ?_
  obtain ⟨i, j, rfl, rfl, q⟩ := q
  obtain ⟨t, rfl⟩ := rx
  obtain ⟨t', rfl⟩ := ry
  exact rule i j t t' _ s2 ⟨.bl _, H2, I2, rfl, q⟩
theorem pc_lt (ha : PE X a ta) (hb : PE X b tb) : PC X .Lt a b (tLt ta tb) := pc_int ha hb fun _ _ _ _ _ _ h => lt_int h
theorem pc_le (ha : PE X a ta) (hb : PE X b tb) : PC X .LtE a b (tLe ta tb) := pc_int ha hb fun _ _ _ _ _ _ h => le_int h
theorem pc_gt (ha : PE X a ta) (hb : PE X b tb) : PC X .Gt a b (tGt ta tb) := pc_int ha hb fun _ _ _ _ _ _ h => gt_int h
theorem pc_ge (ha : PE X a ta) (hb : PE X b tb) : PC X .GtE a b (tGe ta tb) := pc_int ha hb fun _ _ _ _ _ _ h => ge_int h
theorem pc_eqI (ha : PE X a ta) (hb : PE X b tb) : PC X .Eq a b (tEqI ta tb) := pc_int ha hb fun _ _ _ _ _ _ h => eq_int (by rw [Bool.beq_eq_decide_eq]; exact h)
theorem pc_neI (ha : PE X a ta) (hb : PE X b tb) : PC X .NotEq a b (tNeI ta tb) := pc_int ha hb fun _ _ _ _ _ _ h => ne_int (by rw [bne, Bool.beq_eq_decide_eq]; exact h)
/-- is None -/
def tIsN (ta : TE) : TE := fun σ H Q => ta σ H fun x H1 => Q (.bl (decide (x = .non))) H1
def tNotN (ta : TE) : TE := fun σ H Q => ta σ H fun x H1 => Q (.bl (!decide (x = .non))) H1
theorem RelV.none_iff {x : V} {v : Value} (r : RelV x v) : (v == Value.none) = decide (x = .non) := by
  cases x with
  | non => cases r; rfl
  | bl _ => cases r; rfl
  | int _ => obtain ⟨t, rfl⟩ := r; rfl
  | str _ => obtain ⟨t, rfl⟩ := r; rfl
  | byt _ => obtain ⟨t, rfl⟩ := r; rfl
  | flt _ => obtain ⟨t, rfl⟩ := r; rfl
  | ref _ => cases r; rfl
  | ty _ => cases r; rfl
theorem pc_isN {j pos'} (ha : PE X a ta) : PC X .Is a (.Constant .none j pos') (tIsN ta) := by
  intro pins s σ H Q I h
  refine thn (ha pins s σ H _ I h) fun v s1 ⟨x, H1, I1, r1, q1⟩ => ?_
  exact Constant_none (is_none_gen ⟨.bl _, H1, I1, by rw [r1.none_iff]; rfl, q1⟩)
theorem pc_notN {j pos'} (ha : PE X a ta) : PC X .IsNot a (.Constant .none j pos') (tNotN ta) := by
  intro pins s σ H Q I h
  refine thn (ha pins s σ H _ I h) fun v s1 ⟨x, H1, I1, r1, q1⟩ => ?_
  exact Constant_none (isnot_none_gen ⟨.bl _, H1, I1, by rw [r1.none_iff]; rfl, q1⟩)
/-- a comparison as a value, as a test -/
def tB (t : TE) : TT := fun σ H Q => t σ H fun x H1 => ∃ c, x = .bl c ∧ Q c H1
theorem pe_cmp {op : CmpOp} {t : TE} (h : PC X op a b t) (h1 : behindInMarks op b = false := by first | exact nobehind _ (by decide) (by decide) | rfl) : PE X (.Compare a [op] [b] pos) t := fun pins s σ H Q I hw => wpAny_Compare1 (h pins s σ H Q I hw) h1
theorem pt_cmp {op : CmpOp} {t : TE} (h : PC X op a b t) (h1 : behindInMarks op b = false := by first | exact nobehind _ (by decide) (by decide) | rfl) : PT X (.Compare a [op] [b] pos) (tB t) := by
  intro pins s σ H Q I hw
  refine wpAny_isTrue_Compare1 (thn (h pins s σ H _ I hw) fun v s1 h1 => thn h1 fun u s2 h2 => thn h2 fun c s3 ⟨x, H1, I1, r1, q1⟩ => ?_) h1
  obtain ⟨d, rfl, q⟩ := q1
  cases r1
  exact wpAny_truthy_bool ⟨H1, I1, q⟩
/-- an expression whose value is a bool, as a test -/
theorem pt_val {e : Expr} {t : TE} (h : PE X e t) (he : ∀ whole, isTrue e X.env whole = (do let v ← whole; standAt e.pos; holding [v] (truthy v)) := by intro _; rfl) : PT X e (tB t) := by
  intro pins s σ H Q I hw
  refine isTrue_plain (thn (h pins s σ H _ I hw) fun v s1 ⟨x, H1, I1, r1, q1⟩ => ?_) (he _)
  obtain ⟨d, rfl, q⟩ := q1
  cases r1
  exact wpAny_truthy_bool ⟨H1, I1, q⟩

/-! ### and, or, not -/
variable {tA tB' : TT} {rest : List Expr}
def tAnd (t u : TT) : TT := fun σ H Q => t σ H fun c H1 => if c = true then u σ H1 Q else Q false H1
def tOr (t u : TT) : TT := fun σ H Q => t σ H fun c H1 => if c = true then Q true H1 else u σ H1 Q
def tNot (t : TT) : TT := fun σ H Q => t σ H fun c H1 => Q (!c) H1
theorem pw_and1 (ha : PT X a tA) : PW X (.BoolOp .And [a] pos) tA := by
  intro wh pins s σ H Q I h
  refine isTrue_and (thn (ha pins s σ H Q I h) fun c s1 e => ?_)
  cases c with
  | true => exact isTrue_and_nil e
  | false => exact e
theorem pw_or1 (ha : PT X a tA) : PW X (.BoolOp .Or [a] pos) tA := by
  intro wh pins s σ H Q I h
  refine isTrue_or (thn (ha pins s σ H Q I h) fun c s1 e => ?_)
  cases c with
  | false => exact isTrue_or_nil e
  | true => exact e
theorem pw_and (ha : PT X a tA) (hb : PW X (.BoolOp .And (b :: rest) pos) tB') : PW X (.BoolOp .And (a :: b :: rest) pos) (tAnd tA tB') := by
  intro wh pins s σ H Q I h
  refine isTrue_and (thn (ha pins s σ H _ I h) fun c s1 ⟨H1, I1, q1⟩ => ?_)
  cases c with
  | true => exact hb wh pins s1 σ H1 Q I1 q1
  | false => exact ⟨H1, I1, q1⟩
theorem pw_or (ha : PT X a tA) (hb : PW X (.BoolOp .Or (b :: rest) pos) tB') : PW X (.BoolOp .Or (a :: b :: rest) pos) (tOr tA tB') := by
  intro wh pins s σ H Q I h
  refine isTrue_or (thn (ha pins s σ H _ I h) fun c s1 ⟨H1, I1, q1⟩ => ?_)
  cases c with
  | true => exact ⟨H1, I1, q1⟩
  | false => exact hb wh pins s1 σ H1 Q I1 q1
theorem pt_not (ha : PT X a tA) : PT X (.UnaryOp .Not a pos) (tNot tA) := by
  intro pins s σ H Q I h
  exact isTrue_not (ha pins s σ H (fun c H1 => Q (!c) H1) I h)
/-- .. as values (bools) -/
def tAndV (ta tb : TE) : TE := fun σ H Q => ta σ H fun x H1 => ∃ c, x = .bl c ∧ if c = true then tb σ H1 Q else Q (.bl false) H1
def tOrV (ta tb : TE) : TE := fun σ H Q => ta σ H fun x H1 => ∃ c, x = .bl c ∧ if c = true then Q (.bl true) H1 else tb σ H1 Q
def tNotV (ta : TE) : TE := fun σ H Q => ta σ H fun x H1 => ∃ c, x = .bl c ∧ Q (.bl (!c)) H1
theorem pe_one {op} {t : TE} (h : PE X a t) : PE X (.BoolOp op [a] pos) t := fun pins s σ H Q I hw => BoolOp_one (h pins s σ H Q I hw)
theorem pe_and (ha : PE X a ta) (hb : PE X (.BoolOp .And (b :: rest) pos) tb) : PE X (.BoolOp .And (a :: b :: rest) pos) (tAndV ta tb) := by
  intro pins s σ H Q I h
  refine BoolOp_and (thn (ha pins s σ H _ I h) fun v s1 ⟨x, H1, I1, r1, q1⟩ => ?_)
  obtain ⟨c, rfl, q1⟩ := q1
  cases r1
  refine wpAny_truthy_bool ?_
  cases c with
  | true => exact hb pins s1 σ H1 Q I1 q1
  | false => exact ⟨.bl false, H1, I1, rfl, q1⟩
theorem pe_or (ha : PE X a ta) (hb : PE X (.BoolOp .Or (b :: rest) pos) tb) : PE X (.BoolOp .Or (a :: b :: rest) pos) (tOrV ta tb) := by
  intro pins s σ H Q I h
  refine BoolOp_or (thn (ha pins s σ H _ I h) fun v s1 ⟨x, H1, I1, r1, q1⟩ => ?_)
  obtain ⟨c, rfl, q1⟩ := q1
  cases r1
  refine wpAny_truthy_bool ?_
  cases c with
  | false => exact hb pins s1 σ H1 Q I1 q1
  | true => exact ⟨.bl true, H1, I1, rfl, q1⟩
theorem pe_not (ha : PE X a ta) : PE X (.UnaryOp .Not a pos) (tNotV ta) := by
  intro pins s σ H Q I h
  refine UnaryOp_ (thn (ha pins s σ H _ I h) fun v s1 ⟨x, H1, I1, r1, q1⟩ => ?_)
  obtain ⟨c, rfl, q1⟩ := q1
  cases r1
  exact not_of (wpAny_truthy_bool ⟨.bl (!c), H1, I1, rfl, q1⟩)
/-- a if t else b -/
def tIf (t : TT) (ta tb : TE) : TE := fun σ H Q => t σ H fun c H1 => if c = true then ta σ H1 Q else tb σ H1 Q
theorem pe_ifExp {c : Expr} (hc : PT X c tA) (ha : PE X a ta) (hb : PE X b tb) : PE X (.IfExp c a b pos) (tIf tA ta tb) := by
  intro pins s σ H Q I h
  refine wpAny_IfExp (thn (hc pins s σ H _ I h) fun d s1 ⟨H1, I1, q1⟩ => ?_)
  cases d with
  | true => exact ha pins s1 σ H1 Q I1 q1
  | false => exact hb pins s1 σ H1 Q I1 q1
end
end L2

namespace L2
open PySem PySem.Spec PyProof.Rows

/-! ### a list, a tuple that is read: tracked, frozen, or an object of the module -/
def SqL (K : PySem.W.Frag) (H : Hp) (a : Addr) (xs : List V) : Prop :=
  Rd H a (.lst xs) ∨
    ∃ (o : Obj) (its : Array Value) (n : Nat), K.lookup a = some o ∧ o.cls = .type "list" ∧ o.dict = none ∧ o.data = .seq its n ∧ its.size ≤ sizeLine ∧ Vals xs its.toList
def SqT (K : PySem.W.Frag) (H : Hp) (a : Addr) (xs : List V) : Prop :=
  Rd H a (.tup xs) ∨
    ∃ (o : Obj) (its : Array Value) (n : Nat), K.lookup a = some o ∧ o.cls = .type "tuple" ∧ o.data = .seq its n ∧ its.size ≤ sizeLine ∧ Vals xs its.toList
def absV : Value → Option V
  | .none => some .non
  | .bool b => some (.bl b)
  | .int i _ => some (.int i)
  | .str x _ => some (.str x)
  | .bytes b _ => some (.byt b)
  | .float b _ => some (.flt b)
  | .ref a => some (.ref a)
  | .type n => some (.ty n)
  | _ => none
theorem RelV.abs {x : V} {u : Value} (r : RelV x u) : absV u = some x := by
  cases x with
  | non => cases r; rfl
  | bl _ => cases r; rfl
  | int _ => obtain ⟨t, rfl⟩ := r; rfl
  | str _ => obtain ⟨t, rfl⟩ := r; rfl
  | byt _ => obtain ⟨t, rfl⟩ := r; rfl
  | flt _ => obtain ⟨t, rfl⟩ := r; rfl
  | ref _ => cases r; rfl
  | ty _ => cases r; rfl
theorem RelV.inj {x y : V} {u : Value} (r : RelV x u) (q : RelV y u) : x = y := Option.some.inj (r.abs.symm.trans q.abs)
theorem Vals.inj : ∀ {xs ys : List V} {us : List Value}, Vals xs us → Vals ys us → xs = ys
  | _, _, _, .nil, .nil => rfl
  | _, _, _, .cons r t, .cons r' t' => by rw [r.inj r', Vals.inj t t']
section
variable {X : Cx} {pins : List (Addr × Obj)} {σ : St} {H : Hp} {s : Shared} {a : Addr} {xs ys : List V}
theorem SqL.of {K : PySem.W.Frag} (h : H a = some (.lst xs)) : SqL K H a xs := .inl (.inl h)
theorem SqT.of {K : PySem.W.Frag} (h : H a = some (.tup xs)) : SqT K H a xs := .inl (.inl h)
theorem Inv.list (I : Inv X pins σ H s) (h : SqL X.K H a xs) : ∃ its : List Value, Vals xs its ∧ PlainL s.heap a its.toArray ∧ xs.length ≤ sizeLine := by
  rcases h with h | ⟨o, its, n, hk, hc, hd, hs, hz, r⟩
  · obtain ⟨z, its, n, r, e⟩ := h.ok I.hok
    exact ⟨its, r, ⟨_, n, e, rfl, rfl, rfl⟩, z⟩
  · refine ⟨its.toList, r, ⟨o, n, I.kIn a o hk, hc, hd, by simpa using hs⟩, ?_⟩
    have e := r.length
    simp only [Array.length_toList] at e
    omega
theorem Inv.tuple (I : Inv X pins σ H s) (h : SqT X.K H a xs) : ∃ its : List Value, Vals xs its ∧ IsTup s.heap a its.toArray ∧ xs.length ≤ sizeLine := by
  rcases h with h | ⟨o, its, n, hk, hc, hs, hz, r⟩
  · obtain ⟨z, its, r, p⟩ := h.ok I.hok
    exact ⟨its, r, p, z⟩
  · refine ⟨its.toList, r, ⟨o, I.kIn a o hk, hc, n, by simpa using hs⟩, ?_⟩
    have e := r.length
    simp only [Array.length_toList] at e
    omega
theorem Inv.list_inj (I : Inv X pins σ H s) (h : SqL X.K H a xs) (h' : SqL X.K H a ys) : xs = ys := by
  obtain ⟨its, r, ⟨o, n, e, _, _, d⟩, _⟩ := I.list h
  obtain ⟨its', r', ⟨o', n', e', _, _, d'⟩, _⟩ := I.list h'
  rw [e] at e'; cases e'
  rw [d] at d'
  injection d' with d1 _
  have : its = its' := by simpa using congrArg Array.toList d1
  subst this
  exact r.inj r'
theorem Inv.tuple_inj (I : Inv X pins σ H s) (h : SqT X.K H a xs) (h' : SqT X.K H a ys) : xs = ys := by
  obtain ⟨its, r, ⟨o, e, _, n, d⟩, _⟩ := I.tuple h
  obtain ⟨its', r', ⟨o', e', _, n', d'⟩, _⟩ := I.tuple h'
  rw [e] at e'; cases e'
  rw [d] at d'
  injection d' with d1 _
  have : its = its' := by simpa using congrArg Array.toList d1
  subst this
  exact r.inj r'
end

/-! ### another wish about exceptions -/
abbrev Cx.wish (X : Cx) (E : Value → Shared → Prop) : Cx := { X with xe := E }
/-- no exception leaves -/
abbrev Cx.nox (X : Cx) : Cx := X.wish fun _ _ => False
theorem Cx.Ok.wish {X : Cx} (ok : X.Ok) (E : Value → Shared → Prop) : (X.wish E).Ok :=
  ⟨ok.mod, ok.kind, ok.glob, ok.blt, ok.above, ok.inj, ok.has, ok.cab, ok.hd, ok.frames, ok.stk, ok.exf, ok.bs, ok.bsz, ok.noex, ok.exfs, ok.funs, ok.frf⟩
theorem Cx.Ok.unwish {X : Cx} {E : Value → Shared → Prop} (ok : (X.wish E).Ok) : X.Ok :=
  ⟨ok.mod, ok.kind, ok.glob, ok.blt, ok.above, ok.inj, ok.has, ok.cab, ok.hd, ok.frames, ok.stk, ok.exf, ok.bs, ok.bsz, ok.noex, ok.exfs, ok.funs, ok.frf⟩
section
variable {X : Cx} {pins : List (Addr × Obj)} {σ : St} {H : Hp} {s : Shared} {E : Value → Shared → Prop}
theorem Inv.wish (I : Inv X pins σ H s) (E : Value → Shared → Prop) : Inv (X.wish E) pins σ H s := ⟨I.ok.wish E, I.os, I.bare, I.base, I.loc, I.cell, I.free, I.freeC, I.pin, I.hok, I.len⟩
theorem Inv.unwish (I : Inv (X.wish E) pins σ H s) : Inv X pins σ H s := ⟨I.ok.unwish, I.os, I.bare, I.base, I.loc, I.cell, I.free, I.freeC, I.pin, I.hok, I.len⟩
theorem SP.unwish {D : Ends} {f : Flow} {s' : Shared} (h : SP (X.wish E) pins D f s') : SP X pins D f s' := by
  cases f with
  | next => obtain ⟨σ', H', I, q⟩ := h; exact ⟨σ', H', I.unwish, q⟩
  | brk => obtain ⟨σ', H', I, q⟩ := h; exact ⟨σ', H', I.unwish, q⟩
  | cont => obtain ⟨σ', H', I, q⟩ := h; exact ⟨σ', H', I.unwish, q⟩
  | ret u => obtain ⟨v, σ', H', I, r, q⟩ := h; exact ⟨v, σ', H', I.unwish, r, q⟩
theorem PE.nox {e : Expr} {t : TE} (h : PE X.nox e t) : PE X e t := fun pins s σ H Q I hw =>
  wpAny_mono (h pins s σ H Q (I.wish _) hw) (fun _ _ ⟨v, H', I', r, q⟩ => ⟨v, H', I'.unwish, r, q⟩) fun _ _ z => False.elim z
theorem PT.nox {e : Expr} {t : TT} (h : PT X.nox e t) : PT X e t := fun pins s σ H Q I hw =>
  wpAny_mono (h pins s σ H Q (I.wish _) hw) (fun _ _ ⟨H', I', q⟩ => ⟨H', I'.unwish, q⟩) fun _ _ z => False.elim z
theorem PSs.nox {st : List Stmt} {t : TS} (h : PSs X.nox st t) : PSs X st t := fun pins s σ H D I hw =>
  wpAny_mono (h pins s σ H D (I.wish _) hw) (fun _ _ q => q.unwish) fun _ _ z => False.elim z
end

/-! ### blocks and small statements -/
section
variable {X : Cx} {st : Stmt} {rest : List Stmt} {t u : TS} {e : Expr} {te : TE} {pos : Pos}
def tNext : TS := fun D σ H => D.nx σ H
def tSeq (t u : TS) : TS := fun D σ H => t { D with nx := u D } σ H
theorem pss_nil : PSs X [] tNext := fun _ _ σ H _ I h => wpAny_execs_nil ⟨σ, H, I, h⟩
theorem pss_cons (h1 : PS X st t) (h2 : PSs X rest u) : PSs X (st :: rest) (tSeq t u) := by
  intro pins s σ H D I h
  refine wpAny_execs_cons (thn (h1 pins s σ H { D with nx := u D } I h) fun f s1 q => ?_)
  cases f with
  | next =>
    obtain ⟨σ', H', I', q⟩ := q
    exact h2 pins s1 σ' H' D I' q
  | ret v => exact q
  | brk => exact q
  | cont => exact q
theorem pss_one (h1 : PS X st t) : PSs X [st] t := by
  intro pins s σ H D I h
  refine wpAny_execs_cons (thn (h1 pins s σ H D I h) fun f s1 q => ?_)
  cases f with
  | next => exact wpAny_execs_nil q
  | ret v => exact q
  | brk => exact q
  | cont => exact q
def tBreak : TS := fun D σ H => D.bk σ H
def tCont : TS := fun D σ H => D.ct σ H
theorem ps_pass : PS X (.Pass pos) tNext := fun _ _ σ H _ I h => wpAny_Pass ⟨σ, H, I, h⟩
theorem ps_break : PS X (.Break pos) tBreak := fun _ _ σ H _ I h => wpAny_Break ⟨σ, H, I, h⟩
theorem ps_continue : PS X (.Continue pos) tCont := fun _ _ σ H _ I h => wpAny_Continue ⟨σ, H, I, h⟩
/-- in a def's body nothing is shown -/
theorem Inv.quiet {pins : List (Addr × Obj)} {σ : St} {H : Hp} {s : Shared} (I : Inv X pins σ H s) : interactive X.env = false := by simp [interactive, I.ok.kind]
/-- a docstring -/
theorem ps_doc {x j pos pos'} : PS X (.Expr (.Constant (.str x) j pos) pos') tNext := fun _ s σ H _ I h => wpAny_Expr (Calls.Constant_str (show SP X _ _ .next { s with toks := s.toks + 1 } from ⟨σ, H, I.tok _, h⟩)) I.quiet
/-- an expression whose value is dropped -/
def tDrop (te : TE) : TS := fun D σ H => te σ H fun _ H1 => D.nx σ H1
theorem ps_expr (he : PE X e te) (hs : swapsWith e none pos.line X.env = pure false := by rfl) : PS X (.Expr e pos) (tDrop te) := by
  intro pins s σ H D I h
  exact wpAny_Expr_any (thn (he pins s σ H _ I h) fun v s1 ⟨x, H1, I1, r1, q1⟩ => ⟨σ, H1, I1, q1⟩) I.quiet hs
def tRet (te : TE) : TS := fun D σ H => te σ H D.rt
theorem ps_ret (he : PE X e te) : PS X (.Return (some e) pos) (tRet te) := by
  intro pins s σ H D I h
  exact wpAny_Return_some (thn (he pins s σ H _ I h) fun v s1 ⟨x, H1, I1, r1, q1⟩ => ⟨x, σ, H1, I1, r1, q1⟩)
def tRetN : TS := fun D _ H => D.rt .non H
theorem ps_retN : PS X (.Return none pos) tRetN := fun _ _ σ H _ I h => wpAny_Return_none ⟨.non, σ, H, I, rfl, h⟩
def tIfS (c : TT) (t u : TS) : TS := fun D σ H => c σ H fun b H1 => if b = true then t D σ H1 else u D σ H1
theorem ps_if {c : Expr} {a b : List Stmt} {tc : TT} (hc : PT X c tc) (ha : PSs X a t) (hb : PSs X b u) : PS X (.If c a b pos) (tIfS tc t u) := by
  intro pins s σ H D I h
  refine wpAny_If (thn (hc pins s σ H _ I h) fun d s1 ⟨H1, I1, q1⟩ => ?_)
  cases d with
  | true => exact ha pins s1 σ H1 D I1 q1
  | false => exact hb pins s1 σ H1 D I1 q1
/-- code that the proof never comes to -/
def tNever : TS := fun _ _ _ => False
theorem ps_never : PS X st tNever := fun _ _ _ _ _ _ h => h.elim
theorem pss_never {sts : List Stmt} : PSs X sts tNever := fun _ _ _ _ _ _ h => h.elim
end

/-! ### targets -/
abbrev TG := V → St → Hp → (St → Hp → Prop) → Prop
abbrev TGs := List V → St → Hp → (St → Hp → Prop) → Prop
def PG (X : Cx) (target : Expr) (t : TG) : Prop :=
  ∀ (pins : List (Addr × Obj)) (s : Shared) (σ : St) (H : Hp) (v : V) (u : Value) (Q : St → Hp → Prop), Inv X pins σ H s → RelV v u → t v σ H Q →
    wpAny (model X.prog X.w) X.A (assign target X.env u) (fun _ s' => ∃ σ' H', Inv X pins σ' H' s' ∧ Q σ' H') X.xe s
/-- several targets, one after another -/
def PGs (X : Cx) (ts : List Expr) (t : TGs) : Prop :=
  ∀ (pins : List (Addr × Obj)) (s : Shared) (σ : St) (H : Hp) (vs : List V) (us : List Value) (Q : St → Hp → Prop), Inv X pins σ H s → Vals vs us → t vs σ H Q →
    wpAny (model X.prog X.w) X.A (assignInOrder ((assignEach ts X.env).map (·.2)) us) (fun _ s' => ∃ σ' H', Inv X pins σ' H' s' ∧ Q σ' H') X.xe s
/-- o[i] = v, by values -/
abbrev TSet := V → V → V → Hp → (Hp → Prop) → Prop
def PSet (X : Cx) (t : TSet) : Prop :=
  ∀ (pins : List (Addr × Obj)) (s : Shared) (σ : St) (H : Hp) (o i v : V) (ov iv u : Value) (Q : Hp → Prop), Inv X pins σ H s → RelV o ov → RelV i iv → RelV v u → t o i v H Q →
    wpAny (model X.prog X.w) X.A (setItem ov iv u) (fun _ s' => ∃ H', Inv X pins σ H' s' ∧ Q H') X.xe s
/-- a op= b, by values -/
abbrev TIp := V → V → Hp → VK → Prop
def PIp (X : Cx) (op : Operator) (t : TIp) : Prop :=
  ∀ (pins : List (Addr × Obj)) (s : Shared) (σ : St) (H : Hp) (x y : V) (v u : Value) (Q : VK), Inv X pins σ H s → RelV x v → RelV y u → t x y H Q →
    wpAny (model X.prog X.w) X.A (inplaceOp op v u) (EP X pins σ Q) X.xe s
section
variable {X : Cx} {pos : Pos}
def gName (i : Nat) : TG := fun v σ H Q => Q (σ.set i (some v)) H
theorem pg_name {i : Nat} {x : Str} (hN : X.N.Nodup) (hi : X.N[i]? = some x) (hx : Loc X.env.scope x) (hf : X.fn x = true ∨ X.env.scope.names.lookup x = some .local := by first | exact .inl rfl | exact .inr rfl | assumption) : PG X (.Name x pos) (gName i) := by
  intro pins s σ H v u Q I r h
  exact wpAny_assign_Name (store_ok I hN hi hx r (fun s' I' => ⟨_, H, I', h⟩) hf)
def gNil : TGs := fun vs σ H Q => vs = [] ∧ Q σ H
def gCons (t : TG) (u : TGs) : TGs := fun vs σ H Q => ∃ v r, vs = v :: r ∧ t v σ H fun σ' H' => u r σ' H' Q
theorem pgs_nil : PGs X [] gNil := by
  intro pins s σ H vs us Q I r h
  obtain ⟨e, h⟩ := h
  subst e
  cases r
  exact assignInOrder_nil ⟨σ, H, I, h⟩
theorem pgs_cons {e : Expr} {es : List Expr} {t : TG} {u : TGs} (h1 : PG X e t) (h2 : PGs X es u)
    (hs : (assignEach (e :: es) X.env).map (·.2) = assign e X.env :: (assignEach es X.env).map (·.2) := by rfl) : PGs X (e :: es) (gCons t u) := by
  intro pins s σ H vs us Q I r h
  obtain ⟨v, vr, e1, h⟩ := h
  subst e1
  cases r with
  | cons r rr =>
    rw [hs]
    refine assignInOrder_cons (thn (h1 pins s σ H _ _ _ I r h) fun _ s1 ⟨σ1, H1, I1, q1⟩ => ?_)
    exact h2 pins s1 σ1 H1 _ _ Q I1 rr q1
/-- (a, b, ..) = a tuple of that length -/
def gTup (K : PySem.W.Frag) (n : Nat) (t : TGs) : TG := fun v σ H Q => ∃ a xs, v = .ref a ∧ SqT K H a xs ∧ xs.length = n ∧ t xs σ H Q
theorem pg_tup {es : List Expr} {k : Nat} {t : TGs} {n : Nat} (hc : X.calm = true) (h : PGs X es t)
    (hn : (assignEach es X.env).length = n := by rfl) (hst : (assignEach es X.env).findIdx? (·.1) = none := by rfl) : PG X (.Tuple es k pos) (gTup X.K n t) := by
  intro pins s σ H v u Q I r hw
  obtain ⟨a, xs, e1, hq, hl, hw⟩ := hw
  subst e1
  cases r
  obtain ⟨its, rv, ht, hz⟩ := I.tuple hq
  refine assign_Tuple_tuple (I.ok.hd hc) ht (by simp [hn, ← hl, rv.length]) hst fun h' hx => ?_
  have I1 : Inv X pins σ H { s with heap := h' } := I.kept (t' := s.toks) fun b o e => hx b o (Nat.ne_of_lt (Heap.lt_size e)) e
  exact h pins _ σ H xs _ Q I1 (by simpa using rv) hw
/-- o[i] = .. -/
def gSub (to ti : TE) (t : TSet) : TG := fun v σ H Q => to σ H fun o H1 => ti σ H1 fun i H2 => t o i v H2 fun H3 => Q σ H3
theorem pg_sub {o i : Expr} {to ti : TE} {t : TSet} (ho : PE X o to) (hi : PE X i ti) (hs : PSet X t)
    (ha : ∀ v, assign (.Subscript o i pos) X.env v = (do
      let ov ← holding [v] (eval o X.env)
      let iv ← holding [v, ov] (eval i X.env)
      standAt pos
      holding [v, ov, iv] (setItem ov iv v)
      release [v, ov, iv] []) := by intro _; rfl) : PG X (.Subscript o i pos) (gSub to ti t) := by
  intro pins s σ H v u Q I r h
  rw [ha]
  refine wpAny_bind (wpAny_holding (thn (ho pins s σ H _ I h) fun ov s1 ⟨x, H1, I1, r1, q1⟩ => ?_))
  refine wpAny_bind (wpAny_holding (thn (hi pins s1 σ H1 _ I1 q1) fun iv s2 ⟨y, H2, I2, r2, q2⟩ => ?_))
  refine wpAny_bind (wpAny_standAt (wpAny_bind (wpAny_holding (thn (hs pins s2 σ H2 x y v ov iv u _ I2 r1 r2 r q2) fun _ s3 ⟨H3, I3, q3⟩ => ?_))))
  exact wpAny_release ⟨σ, H3, I3, q3⟩
/-- target = value -/
def tAsg (te : TE) (g : TG) : TS := fun D σ H => te σ H fun x H1 => g x σ H1 D.nx
theorem ps_asg {tg e : Expr} {te : TE} {g : TG} (he : PE X e te) (hg : PG X tg g) (hs : swapsWithSole [tg] e pos.line X.env = pure false := by rfl) (hw : swappedStores [tg] e X.env = pure none := by rfl)
    (h1 : (assignEach [tg] X.env).map (·.2) = [assign tg X.env] := by rfl) : PS X (.Assign [tg] e pos) (tAsg te g) := by
  intro pins s σ H D I h
  refine wpAny_Assign_stores (thn (he pins s σ H _ I h) fun v s1 ⟨x, H1, I1, r1, q1⟩ => ?_) hs hw
  rw [h1]
  exact thn (hg pins s1 σ H1 x v _ I1 r1 q1) fun _ s2 q => q
/-- name = value -/
theorem ps_set {i : Nat} {x : Str} {e : Expr} {te : TE} {pos' : Pos} (hN : X.N.Nodup) (hi : X.N[i]? = some x) (hx : Loc X.env.scope x) (he : PE X e te) (hs : swapsWith e (some (.Name x pos')) pos.line X.env = pure false := by rfl) (hf : X.fn x = true ∨ X.env.scope.names.lookup x = some .local := by first | exact .inl rfl | exact .inr rfl | assumption) :
    PS X (.Assign [.Name x pos'] e pos) (tAsg te (gName i)) := by
  intro pins s σ H D I h
  refine wpAny_Assign_Name (thn (he pins s σ H _ I h) fun v s1 ⟨y, H1, I1, r1, q1⟩ => ?_) hs
  exact store_ok I1 hN hi hx r1 (fun s2 I2 => ⟨_, H1, I2, q1⟩) hf
/-- a, b = x, y with plain local names: stored from the right; the pair itself is not tracked (the opening rows as in PyProof/Rows/TupAssign.lean:23) -/
def tPar (i j : Nat) (ta : TA) : TS := fun D σ H => ta σ H fun vs H1 => ∃ v w, vs = [v, w] ∧ D.nx ((σ.set i (some v)).set j (some w)) H1
theorem ps_par {i j : Nat} {x y : Str} {a b : Expr} {ta : TA} {px py pt : Pos} {kt k2 pt2} (hc : X.calm = true) (hN : X.N.Nodup) (hi : X.N[i]? = some x) (hj : X.N[j]? = some y) (hij : i ≠ j)
    (hx : X.env.scope.names.lookup x = some .local) (hy : X.env.scope.names.lookup y = some .local) (ha : PA X [a, b] ta)
    (hw : swappedStores [.Tuple [.Name x px, .Name y py] kt pt] (.Tuple [a, b] k2 pt2) X.env = pure (some [x, y]))
    (hs : swapsWithSole [.Tuple [.Name x px, .Name y py] kt pt] (.Tuple [a, b] k2 pt2) pos.line X.env = pure false := by rfl) :
    PS X (.Assign [.Tuple [.Name x px, .Name y py] kt pt] (.Tuple [a, b] k2 pt2) pos) (tPar i j ta) := by
  intro pins s σ H D I h
  rw [exec_Assign_arm]
  refine wpAny_bind (wpAny_standAt ?_)
  rw [hs]
  refine wpAny_bind (wpAny_pure ?_)
  rw [if_neg (by decide)]
  refine wpAny_bind (Tuple_ (thn (ha _ pins s σ H _ I h) fun us s1 ⟨vs, H1, I1, r1, q1⟩ => ?_))
  obtain ⟨v, w, e1, q1⟩ := q1
  subst e1
  obtain ⟨u1, u2, rfl, rv, rw'⟩ : ∃ u1 u2, us = [u1, u2] ∧ RelV v u1 ∧ RelV w u2 := by
    cases r1 with
    | cons p q =>
      cases q with
      | cons p' q' =>
        cases q'
        exact ⟨_, _, rfl, p, p'⟩
  refine wpAny_newObj_type ?_ (by show 2 ≤ sizeLine; decide)
  have I2 : Inv X pins σ H1 { s1 with heap := s1.heap.push { cls := .type "tuple", data := .seq [u1, u2].toArray } } := I1.kept (t' := s1.toks) fun b o e => Heap.get?_push_of_some _ e
  rw [hw]
  refine wpAny_bind (wpAny_pure ?_)
  show wpAny (model X.prog X.w) X.A (do rule "assign.swapped-stores"; let items ← unpackItems (.ref s1.heap.objs.size) 2 none; assignInOrder [fun v => bindName X.env y v, fun v => bindName X.env x v] items.reverse; pure Flow.next) _ _ _
  refine wpAny_bind (wpAny_rule (wpAny_bind (unpackItems_tuple (items := #[u1, u2]) (I.ok.hd hc) (IsTup.new s1.heap _) fun h' hx' => ?_)))
  have I3 := I2.kept (h' := h') (t' := s1.toks) fun b o e => hx' b o (Nat.ne_of_lt (Heap.lt_size e)) e
  show wpAny _ _ (assignInOrder [fun v => bindName X.env y v, fun v => bindName X.env x v] [u2, u1] >>= fun _ => pure Flow.next) _ _ _
  refine wpAny_bind (assignInOrder_cons (wpAny_bindName (store_ok I3 hN hj (.inl hy) rw' (fun s2 I4 => ?_) (.inr hy))))
  refine assignInOrder_cons (wpAny_bindName (store_ok I4 hN hi (.inl hx) rv (fun s3 I5 => assignInOrder_nil (wpAny_pure ?_)) (.inr hx)))
  rw [List.set_comm _ _ (Ne.symm hij)] at I5
  exact ⟨_, H1, I5, q1⟩
/-- name op= e -/
def tAug (i : Nat) (te : TE) (ti : TIp) : TS := fun D σ H => ∃ x, σ[i]? = some (some x) ∧ te σ H fun y H1 => ti x y H1 fun z H2 => D.nx (σ.set i (some z)) H2
theorem ps_aug {i : Nat} {x : Str} {e : Expr} {te : TE} {op : Operator} {ti : TIp} {pos' : Pos} (hN : X.N.Nodup) (hi : X.N[i]? = some x) (hx : Loc X.env.scope x) (he : PE X e te) (ho : PIp X op ti) (hf : X.fn x = true ∨ X.env.scope.names.lookup x = some .local := by first | exact .inl rfl | exact .inr rfl | assumption) :
    PS X (.AugAssign (.Name x pos') op e pos) (tAug i te ti) := by
  intro pins s σ H D I h
  obtain ⟨v, e1, h⟩ := h
  obtain ⟨m, hn, hl⟩ := I.loc
  have vis : Vis X.env.scope x := by rcases hx with k | k; exact .inl k; exact .inr (.inl k)
  obtain ⟨u, r, l⟩ := hl i x v hi e1 vis
  refine wpAny_AugAssign_Name ?_
  have go : wpAny (model X.prog X.w) X.A (eval e X.env) (fun w s₂ => wpAny (model X.prog X.w) X.A (inplaceOp op u w) (fun r s₃ => wpAny (model X.prog X.w) X.A (storeName X.env x r) (fun _ => SP X pins D .next) X.xe s₃) X.xe s₂) X.xe s := by
    refine thn (he pins s σ H _ I h) fun w s1 ⟨y, H1, I1, r1, q1⟩ => ?_
    refine thn (ho pins s1 σ H1 v y u w _ I1 r r1 q1) fun z s2 ⟨zv, H2, I2, r2, q2⟩ => ?_
    exact store_ok I2 hN hi hx r2 (fun s3 I3 => ⟨_, H2, I3, q2⟩) hf
  rcases l with ⟨hk, hm⟩ | ⟨hk, c, hc, hcell⟩
  · exact wpAny_loadName_local I.ok.kind hk hn hm go
  · rcases hk with hk | hk
    · exact wpAny_loadName_cell I.ok.kind hk hc hcell go
    · rcases hx with k | k
      · have : X.env.scope.names.lookup x = some .free := hk
        rw [k] at this; cases this
      · have : X.env.scope.names.lookup x = some .free := hk
        rw [k] at this; cases this
/-- o[i] op= e -/
def tAugS (to ti te : TE) (tget : V → V → Hp → VK → Prop) (tip : TIp) (tset : TSet) : TS := fun D σ H => to σ H fun o H1 => ti σ H1 fun i H2 => tget o i H2 fun x H3 => te σ H3 fun y H4 => tip x y H4 fun z H5 => tset o i z H5 fun H6 => D.nx σ H6
/-- o[i], by values -/
def PGet (X : Cx) (t : V → V → Hp → VK → Prop) : Prop :=
  ∀ (pins : List (Addr × Obj)) (s : Shared) (σ : St) (H : Hp) (o i : V) (ov iv : Value) (Q : VK), Inv X pins σ H s → RelV o ov → RelV i iv → t o i H Q →
    wpAny (model X.prog X.w) X.A (getItem ov iv) (EP X pins σ Q) X.xe s
theorem ps_augS {o i e : Expr} {to ti te : TE} {tget : V → V → Hp → VK → Prop} {tip : TIp} {tset : TSet} {op : Operator} {tpos : Pos} (ho : PE X o to) (hi : PE X i ti) (hg : PGet X tget) (he : PE X e te) (hp : PIp X op tip) (hs : PSet X tset)
    (ha : ∀ ov iv new, augStore i ov iv new = (do holding [new, ov, iv] (setItem ov iv new); release [new, ov, iv] []; pure .next) := by intros; rfl) : PS X (.AugAssign (.Subscript o i tpos) op e pos) (tAugS to ti te tget tip tset) := by
  intro pins s σ H D I h
  refine wpAny_AugAssign_SubscriptAny (thn (ho pins s σ H _ I h) fun ov s1 ⟨x1, H1, I1, r1, q1⟩ => ?_) ha
  refine thn (hi pins s1 σ H1 _ I1 q1) fun iv s2 ⟨x2, H2, I2, r2, q2⟩ => ?_
  refine thn (hg pins s2 σ H2 x1 x2 ov iv _ I2 r1 r2 q2) fun old s3 ⟨x3, H3, I3, r3, q3⟩ => ?_
  refine thn (he pins s3 σ H3 _ I3 q3) fun v s4 ⟨x4, H4, I4, r4, q4⟩ => ?_
  refine thn (hp pins s4 σ H4 x3 x4 old v _ I4 r3 r4 q4) fun new s5 ⟨x5, H5, I5, r5, q5⟩ => ?_
  exact thn (hs pins s5 σ H5 x1 x2 x5 ov iv new _ I5 r1 r2 r5 q5) fun _ s6 ⟨H6, I6, q6⟩ => ⟨σ, H6, I6, q6⟩
/-- ints -/
def ipI (f : Int → Int → Int) : TIp := fun x y H Q => ∃ i j, x = .int i ∧ y = .int j ∧ Q (.int (f i j)) H
theorem ip_add : PIp X .Add (ipI fun i j => i + j) := by
  intro pins s σ H x y v u Q I r1 r2 h
  obtain ⟨i, j, e1, e2, q⟩ := h
  subst e1; subst e2
  obtain ⟨t, rfl⟩ := r1
  obtain ⟨t', rfl⟩ := r2
  exact iadd_int ⟨.int _, H, I.tok _, ⟨_, rfl⟩, q⟩
theorem ip_sub : PIp X .Sub (ipI fun i j => i - j) := by
  intro pins s σ H x y v u Q I r1 r2 h
  obtain ⟨i, j, e1, e2, q⟩ := h
  subst e1; subst e2
  obtain ⟨t, rfl⟩ := r1
  obtain ⟨t', rfl⟩ := r2
  exact isub_int ⟨.int _, H, I.tok _, ⟨_, rfl⟩, q⟩
end

/-! ### while -/
section
variable {X : Cx} {pos : Pos}
/-- the invariant W with its measure -/
def tWhile (c : TT) (tb : TS) : TS := fun D σ H => ∃ W : Nat → St → Hp → Prop, (∃ m, W m σ H) ∧ ∀ m σ H, W m σ H →
  c σ H fun b H1 => if b = true then ∃ N : St → Hp → Prop, (∀ σ' H', N σ' H' → ∃ m', m' < m ∧ W m' σ' H') ∧ tb { D with nx := N, ct := N, bk := D.nx } σ H1 else D.nx σ H1
theorem ps_while {c : Expr} {body : List Stmt} {tc : TT} {tb : TS} (hp : PassesOwn (model X.prog X.w) X.A X.env X.xe) (hc : PT X c tc) (hb : PSs X body tb) : PS X (.While c body [] pos) (tWhile tc tb) := by
  intro pins s σ H D I h
  obtain ⟨W, ⟨m0, w0⟩, turn⟩ := h
  refine wpAny_While (codeAny_whileLoop (fun n s' => ∃ σ' H', Inv X pins σ' H' s' ∧ W n σ' H') ?_ m0 ⟨σ, H, I, w0⟩)
  rintro n s1 ⟨σ1, H1, I1, w1⟩
  refine wpAny_passesOwn hp (thn (hc pins s1 σ1 H1 _ I1 (turn n σ1 H1 w1)) fun b s2 ⟨H2, I2, q2⟩ => ?_)
  cases b with
  | true =>
    obtain ⟨N, hN, q2⟩ := q2
    rw [if_pos rfl]
    refine wpAny_passesOwn hp (thn (hb pins s2 σ1 H2 _ I2 q2) fun f s3 q3 => ?_)
    cases f with
    | next =>
      obtain ⟨σ3, H3, I3, n3⟩ := q3
      obtain ⟨m', hm, w3⟩ := hN σ3 H3 n3
      exact ⟨m', hm, σ3, H3, I3, w3⟩
    | cont =>
      obtain ⟨σ3, H3, I3, n3⟩ := q3
      obtain ⟨m', hm, w3⟩ := hN σ3 H3 n3
      exact ⟨m', hm, σ3, H3, I3, w3⟩
    | brk => exact q3
    | ret v => exact q3
  | false =>
    rw [if_neg Bool.false_ne_true]
    exact wpAny_execs_nil ⟨σ1, H2, I2, q2⟩
end

/-! ### what a loop or a comprehension walks -/
/-- at turn i: it yields x (the heap may grow), or it stops -/
structure It where
  go : Nat → Hp → Prop
  yld : Nat → Hp → V → Hp → Prop
  stop : Nat → Hp → Prop
/-- the iterator's own objects may turn: they are not the frame's, not pinned, younger than the entry (or a comprehension's own) -/
def FpOk (X : Cx) (pins : List (Addr × Obj)) (H : Hp) (b : Addr) : Prop :=
  H b = none ∧ b ≠ X.env.locals ∧ b ∉ X.fs ∧ (b ∈ X.ex ∨ X.s₀.heap.objs.size ≤ b) ∧ (∀ x c, X.env.cells.lookup x = some c → c ≠ b) ∧ ∀ p ∈ X.pn ++ pins, p.1 ≠ b
theorem Inv.fpOk {X : Cx} {pins : List (Addr × Obj)} {σ : St} {H H' : Hp} {s : Shared} {b : Addr} (I : Inv X pins σ H s) (hb : s.heap.objs.size ≤ b) (hn : H' b = none) : FpOk X pins H' b := by
  refine ⟨hn, Nat.ne_of_gt (Nat.lt_of_lt_of_le I.lt hb), I.nofs hb, .inr (Nat.le_trans I.sz hb), fun x c e z => ?_, fun p hp z => ?_⟩
  · obtain ⟨v, q⟩ := I.cell x c e
    exact absurd (Nat.lt_of_lt_of_le q.lt (by rw [z]; exact hb)) (Nat.lt_irrefl _)
  · exact absurd (Nat.lt_of_lt_of_le (Heap.lt_size (I.pin p hp).1) (by rw [z]; exact hb)) (Nat.lt_irrefl _)
structure Turn (P : Program) (w : World) (K : PySem.W.Frag) (tg : Expr) (J : It) (fp : List Addr) (it : Addr) (tn : Nat → Heap → Prop) : Prop where
  mem : it ∈ fp
  obj : ∀ i h, tn i h → ∀ b ∈ fp, ∃ o, h.get? b = some o ∧ ∀ v, o.data ≠ .cell v
  keep : ∀ i h h', tn i h → (∀ b ∈ fp, ∀ o, h.get? b = some o → h'.get? b = some o) → tn i h'
  item : ∀ (X : Cx), X.prog = P → X.w = w → X.K = K → X.calm = true → ∀ (i : Nat) (pins : List (Addr × Obj)) (s : Shared) (σ : St) (H : Hp) (E : Value → Shared → Prop), Inv X pins σ H s → (∀ b ∈ fp, FpOk X pins H b) → tn i s.heap → J.go i H →
    wpAny (model P w) X.A (pyNext (.ref it)) (fun r s1 => ∃ u, r = some u ∧
      wpAny (model P w) X.A (letOwnedTupleGo tg (.ref it) u) (fun _ s2 => ∃ x H', Inv X pins σ H' s2 ∧ RelV x u ∧ J.yld i H x H' ∧ tn (i + 1) s2.heap ∧ ∀ b ∈ fp, H' b = none) E s1) E s
  done : ∀ (X : Cx), X.prog = P → X.w = w → X.K = K → X.calm = true → ∀ (i : Nat) (pins : List (Addr × Obj)) (s : Shared) (σ : St) (H : Hp) (E : Value → Shared → Prop), Inv X pins σ H s → (∀ b ∈ fp, FpOk X pins H b) → tn i s.heap → J.stop i H →
    wpAny (model P w) X.A (pyNext (.ref it)) (fun r s1 => r = none ∧ Inv X pins σ H s1) E s
  self : ∀ (A : Around) (i : Nat) (s : Shared) (Q : Value → Shared → Prop) (E : Value → Shared → Prop), tn i s.heap → Q (.ref it) s → wpAny (model P w) A (pyIter (.ref it)) Q E s
abbrev TI := St → Hp → (It → Hp → Prop) → Prop
/-- an iterator has come -/
def PIE (X : Cx) (pins : List (Addr × Obj)) (σ : St) (tg : Expr) (R : It → Hp → Prop) (itv : Value) (s2 : Shared) : Prop :=
  ∃ (it : Addr) (fp : List Addr) (tn : Nat → Heap → Prop) (J : It) (H' : Hp), itv = .ref it ∧ Inv X pins σ H' s2 ∧ Turn X.prog X.w X.K tg J fp it tn ∧ tn 0 s2.heap ∧ (∀ b ∈ fp, FpOk X pins H' b) ∧ R J H'
def PI (X : Cx) (tg iter : Expr) (wi : TI) : Prop :=
  ∀ (pins : List (Addr × Obj)) (s : Shared) (σ : St) (H : Hp) (R : It → Hp → Prop), Inv X pins σ H s → wi σ H R →
    wpAny (model X.prog X.w) X.A (eval iter X.env) (fun v s1 => wpAny (model X.prog X.w) X.A (pyIter v) (PIE X pins σ tg R) X.xe s1) X.xe s

/-- the step ahead of the store is nothing for an iterator that keeps no tuple -/
theorem go_of {M : Model} {A : Around} {E : Value → Shared → Prop} {s : Shared} {tg : Expr} {it : Addr} {u : Value} {o : Obj} {n : String} {vs : Array Value} {Q : Unit → Shared → Prop} (ho : s.heap.get? it = some o) (hc : o.cls = .type n) (hd : o.data = .fields vs)
    (hn : ["enumerate", "zip", "dict_itemiterator", "dict_reverseitemiterator", "odict_iterator", "itertools.zip_longest", "itertools.pairwise"].contains n = false) (hQ : Q () s) : wpAny M A (letOwnedTupleGo tg (.ref it) u) Q E s := by
  unfold letOwnedTupleGo
  cases tg <;> first
    | exact wpAny_pure hQ
    | (cases u <;> first
        | exact wpAny_pure hQ
        | (refine wpAny_bind (wpAny_load ho ?_)
           rw [hc, hd]
           show wpAny M A (if (["enumerate", "zip", "dict_itemiterator", "dict_reverseitemiterator", "odict_iterator", "itertools.zip_longest", "itertools.pairwise"].contains n && vs[0]? == some (rawInt _)) = true then _ else _) Q E s
           rw [if_neg (by intro h; rw [hn, Bool.false_and] at h; cases h)]
           exact wpAny_pure hQ))

/-- the list at a, as it stands at each turn (a loop may append to it) -/
def Itl (K : PySem.W.Frag) (a : Addr) : It :=
  ⟨fun i H => ∃ xs x, SqL K H a xs ∧ xs[i]? = some x, fun i H x H' => H' = H ∧ ∀ xs, SqL K H a xs → xs[i]? = some x, fun i H => ∃ xs, SqL K H a xs ∧ xs.length ≤ i⟩
def Itt (K : PySem.W.Frag) (a : Addr) : It :=
  ⟨fun i H => ∃ xs x, SqT K H a xs ∧ xs[i]? = some x, fun i H x H' => H' = H ∧ ∀ xs, SqT K H a xs → xs[i]? = some x, fun i H => ∃ xs, SqT K H a xs ∧ xs.length ≤ i⟩
/-- lo, lo + 1, .. (n of them) -/
def Itr (lo : Int) (n : Nat) : It := ⟨fun i _ => i < n, fun i H x H' => H' = H ∧ x = .int (lo + i), fun i _ => n ≤ i⟩
theorem turn_list {P : Program} {w : World} {K : PySem.W.Frag} {tg : Expr} (a it : Addr) : Turn P w K tg (Itl K a) [it] it (fun i h => h.IsListIter it a i) where
  mem := by simp
  obj := fun i h st b hb => by
    have e : b = it := by simpa using hb
    subst e
    obtain ⟨o, e, c, d⟩ := st
    exact ⟨o, e, fun v z => by rw [d] at z; cases z⟩
  keep := fun i h h' st k => st.at fun o e => k it (by simp) o e
  item := by
    intro X hP hw hK hc i pins s σ H E I hf st hg
    subst hP hw hK
    obtain ⟨xs, x, hq, hx⟩ := hg
    obtain ⟨its, rv, p, hz⟩ := I.list hq
    obtain ⟨u, hu, ru⟩ := rv.get hx
    obtain ⟨f0, f1, f2, f3, f4, f5⟩ := hf it (by simp)
    refine wpAny_pyNext_list_item st p.isList (x := u) (by simpa using hu) fun h' st' sb => ?_
    have I1 : Inv X pins σ H { s with heap := h' } := I.turned (t' := s.toks) (fun b o hb e => (sb.2 b hb).trans e) f0 f1 f3 f4 f5
    obtain ⟨o, e, c, d⟩ := id st'
    exact ⟨u, rfl, go_of (s := { s with heap := h' }) e c d (by decide) ⟨x, H, I1, ru, ⟨rfl, fun ys hy => by rw [I.list_inj hy hq]; exact hx⟩, st', fun b hb => (hf b hb).1⟩⟩
  done := by
    intro X hP hw hK hc i pins s σ H E I hf st hg
    subst hP hw hK
    obtain ⟨xs, hq, hx⟩ := hg
    obtain ⟨its, rv, p, hz⟩ := I.list hq
    obtain ⟨f0, f1, f2, f3, f4, f5⟩ := hf it (by simp)
    have hl := rv.length
    exact wpAny_pyNext_list_end (I.ok.hd hc) st p.isList (by simp; omega) fun h' eb => ⟨rfl, I.turned (t' := s.toks) (fun b o hb e => eb b o hb e) f0 f1 f3 f4 f5⟩
  self := fun _ _ _ _ _ st h => wpAny_pyIter_listiter st h
theorem turn_tuple {P : Program} {w : World} {K : PySem.W.Frag} {tg : Expr} (a it : Addr) : Turn P w K tg (Itt K a) [it] it (fun i h => h.IsTupleIter it a i) where
  mem := by simp
  obj := fun i h st b hb => by
    have e : b = it := by simpa using hb
    subst e
    obtain ⟨o, e, c, d⟩ := st
    exact ⟨o, e, fun v z => by rw [d] at z; cases z⟩
  keep := fun i h h' st k => st.at fun o e => k it (by simp) o e
  item := by
    intro X hP hw hK hc i pins s σ H E I hf st hg
    subst hP hw hK
    obtain ⟨xs, x, hq, hx⟩ := hg
    obtain ⟨its, rv, p, hz⟩ := I.tuple hq
    obtain ⟨u, hu, ru⟩ := rv.get hx
    obtain ⟨f0, f1, f2, f3, f4, f5⟩ := hf it (by simp)
    refine wpAny_pyNext_tuple_item st (show s.heap.IsTuple a its.toArray from p) (x := u) (by simpa using hu) fun h' st' sb => ?_
    have I1 : Inv X pins σ H { s with heap := h' } := I.turned (t' := s.toks) (fun b o hb e => (sb.2 b hb).trans e) f0 f1 f3 f4 f5
    obtain ⟨o, e, c, d⟩ := id st'
    exact ⟨u, rfl, go_of (s := { s with heap := h' }) e c d (by decide) ⟨x, H, I1, ru, ⟨rfl, fun ys hy => by rw [I.tuple_inj hy hq]; exact hx⟩, st', fun b hb => (hf b hb).1⟩⟩
  done := by
    intro X hP hw hK hc i pins s σ H E I hf st hg
    subst hP hw hK
    obtain ⟨xs, hq, hx⟩ := hg
    obtain ⟨its, rv, p, hz⟩ := I.tuple hq
    obtain ⟨f0, f1, f2, f3, f4, f5⟩ := hf it (by simp)
    have hl := rv.length
    exact wpAny_pyNext_tuple_end (I.ok.hd hc) st (show s.heap.IsTuple a its.toArray from p) (by simp; omega) fun h' eb => ⟨rfl, I.turned (t' := s.toks) (fun b o hb e => eb b o hb e) f0 f1 f3 f4 f5⟩
  self := fun _ _ _ _ _ st h => wpAny_pyIter_tupleiter st h
theorem turn_range {P : Program} {w : World} {K : PySem.W.Frag} {tg : Expr} (it : Addr) (lo : Int) (n : Nat) : Turn P w K tg (Itr lo n) [it] it (fun i h => IsRangeIter h it (lo + (i : Nat) * 1) ((n : Int) - (i : Nat)) 1) where
  mem := by simp
  obj := fun i h st b hb => by
    have e : b = it := by simpa using hb
    subst e
    exact ⟨_, st, fun v z => by
      have z' : Data.fields _ = Data.cell v := z
      cases z'⟩
  keep := fun i h h' st k => k it (by simp) _ st
  item := by
    intro X hP hw hK hc i pins s σ H E I hf st hg
    subst hP hw hK
    obtain ⟨f0, f1, f2, f3, f4, f5⟩ := hf it (by simp)
    have W := Walks.range (prog := X.prog) (w := X.w) (I.ok.hd hc) it lo 1 n
    refine W.item i s _ _ hg st fun v h' tk hv st' kk => ?_
    obtain ⟨t, rfl⟩ := hv
    have I1 : Inv X pins σ H { s with heap := h', toks := tk } := I.turned (fun b o hb e => kk b o (by simpa using hb) e) f0 f1 f3 f4 f5
    refine ⟨_, rfl, go_of (s := { s with heap := h', toks := tk }) (n := "range_iterator") st' rfl rfl (by decide) ⟨.int (lo + i), H, I1, ⟨t, ?_⟩, ⟨rfl, rfl⟩, st', fun b hb => (hf b hb).1⟩⟩
    rw [Int.mul_one]
  done := by
    intro X hP hw hK hc i pins s σ H E I hf st hg
    subst hP hw hK
    obtain ⟨f0, f1, f2, f3, f4, f5⟩ := hf it (by simp)
    exact wpAny_pyNext_range_end (I.ok.hd hc) st (by have : n ≤ i := hg; omega) fun h' eb => ⟨rfl, I.turned (t' := s.toks) (fun b o hb e => eb b o hb e) f0 f1 f3 f4 f5⟩
  self := fun _ _ _ _ _ st h => wpAny_pyIter_rangeiter st h
end L2

namespace L2
open PySem PySem.Spec PyProof.Rows
section
variable {X : Cx} {tg : Expr}
def iList (K : PySem.W.Frag) (tl : TE) : TI := fun σ H R => tl σ H fun x H1 => ∃ a, x = .ref a ∧ (∃ xs, SqL K H1 a xs) ∧ R (Itl K a) H1
def iTup (K : PySem.W.Frag) (tl : TE) : TI := fun σ H R => tl σ H fun x H1 => ∃ a, x = .ref a ∧ (∃ xs, SqT K H1 a xs) ∧ R (Itt K a) H1
theorem pi_list {l : Expr} {tl : TE} (hl : PE X l tl) : PI X tg l (iList X.K tl) := by
  intro pins s σ H R I h
  refine thn (hl pins s σ H _ I h) fun v s1 ⟨x, H1, I1, r1, q1⟩ => ?_
  obtain ⟨a, e, ⟨xs, hq⟩, q⟩ := q1
  subst e
  cases r1
  obtain ⟨its, rv, p, hz⟩ := I1.list hq
  refine wpAny_pyIter_list p.isList ?_
  refine ⟨s1.heap.objs.size, [s1.heap.objs.size], _, _, H1, rfl, I1.kept (t' := s1.toks) fun b o e => Heap.get?_push_of_some _ e, turn_list a _, ⟨_, Heap.get?_push_size _ rfl, rfl, rfl⟩, fun b hb => ?_, q⟩
  have e : b = s1.heap.objs.size := by simpa using hb
  subst e
  exact I1.fpOk (Nat.le_refl _) (I1.hok.fresh (Nat.le_refl _))
theorem pi_tup {l : Expr} {tl : TE} (hl : PE X l tl) : PI X tg l (iTup X.K tl) := by
  intro pins s σ H R I h
  refine thn (hl pins s σ H _ I h) fun v s1 ⟨x, H1, I1, r1, q1⟩ => ?_
  obtain ⟨a, e, ⟨xs, hq⟩, q⟩ := q1
  subst e
  cases r1
  obtain ⟨its, rv, p, hz⟩ := I1.tuple hq
  refine wpAny_pyIter_tuple (show s1.heap.IsTuple a its.toArray from p) ?_
  refine ⟨s1.heap.objs.size, [s1.heap.objs.size], _, _, H1, rfl, I1.kept (t' := s1.toks) fun b o e => Heap.get?_push_of_some _ e, turn_tuple a _, ⟨_, Heap.get?_push_size _ rfl, rfl, rfl⟩, fun b hb => ?_, q⟩
  have e : b = s1.heap.objs.size := by simpa using hb
  subst e
  exact I1.fpOk (Nat.le_refl _) (I1.hok.fresh (Nat.le_refl _))
/-- a range object just made, walked -/
theorem range_it {pins : List (Addr × Obj)} {σ : St} {H : Hp} {s : Shared} {R : It → Hp → Prop} {E : Value → Shared → Prop} {lo hi : Int} {t u v : Tok} {tk : Nat} (I : Inv X pins σ H s) (h1 : -(2 ^ 62) ≤ lo) (h2 : lo < 2 ^ 62) (h3 : -(2 ^ 62) ≤ hi) (h4 : hi < 2 ^ 62)
    (q : R (Itr lo (hi - lo).toNat) H) : wpAny (model X.prog X.w) X.A (pyIter (.ref s.heap.objs.size)) (PIE X pins σ tg R) E { s with heap := s.heap.push { cls := .type "range", data := .fields #[.int lo t, .int hi u, .int 1 v] }, toks := tk } := by
  refine wpAny_pyIter_range (IsRange.new ..) (small_one h1 h2 h3 h4) ?_
  have I1 : Inv X pins σ H { s with heap := s.heap.push { cls := .type "range", data := .fields #[.int lo t, .int hi u, .int 1 v] }, toks := tk } := I.kept fun b o e => Heap.get?_push_of_some _ e
  refine ⟨(s.heap.push { cls := .type "range", data := .fields #[.int lo t, .int hi u, .int 1 v] }).objs.size, [(s.heap.push { cls := .type "range", data := .fields #[.int lo t, .int hi u, .int 1 v] }).objs.size], _, _, H, rfl,
    I1.kept (t' := tk) fun b o e => Heap.get?_push_of_some _ e, turn_range _ lo (hi - lo).toNat, ?_, fun b hb => ?_, q⟩
  · have e1 : lo + ((0 : Nat) : Int) * 1 = lo := by simp
    have e2 : (((hi - lo).toNat : Nat) : Int) - ((0 : Nat) : Int) = Builtin.Range.rangeSize lo hi 1 := by rw [rangeSize_one]; split <;> omega
    show IsRangeIter _ _ (lo + ((0 : Nat) : Int) * 1) ((((hi - lo).toNat : Nat) : Int) - ((0 : Nat) : Int)) 1
    rw [e1, e2]
    exact Heap.get?_push_size _ rfl
  · have e : b = (s.heap.push { cls := .type "range", data := .fields #[.int lo t, .int hi u, .int 1 v] }).objs.size := by simpa using hb
    subst e
    exact I1.fpOk (Nat.le_refl _) (I1.hok.fresh (Nat.le_refl _))
def iRng1 (ta : TA) : TI := fun σ H R => ta σ H fun vs H1 => ∃ j : Int, vs = [.int j] ∧ -(2 ^ 62) ≤ j ∧ j < 2 ^ 62 ∧ R (Itr 0 j.toNat) H1
def iRng2 (ta : TA) : TI := fun σ H R => ta σ H fun vs H1 => ∃ i j : Int, vs = [.int i, .int j] ∧ (-(2 ^ 62) ≤ i ∧ i < 2 ^ 62 ∧ -(2 ^ 62) ≤ j ∧ j < 2 ^ 62) ∧ R (Itr i (j - i).toNat) H1
theorem pi_range1 {a : Expr} {ta : TA} {p pos : Pos} (hg : Gl X "range") (hm : X.mg "range" = none) (ha : PA X [a] ta) (hs : starEach [a] X.env = [(false, eval a X.env)] := by rfl) : PI X tg (.Call (.Name "range" p) [a] [] pos) (iRng1 ta) := by
  intro pins s σ H R I h
  refine Call_ (ld_blt I hg hm boot_range (PyProof.Rows.callWith_type1 (thn (ha pos pins s σ H _ I h) fun us s1 ⟨vs, H1, I1, r1, q1⟩ => ?_) hs rfl))
  obtain ⟨j, e, q1, q2, q⟩ := q1
  subst e
  cases r1 with
  | cons r rr =>
    cases rr
    obtain ⟨t, rfl⟩ := r
    exact call_range_1 (range_it I1 (by omega) (by omega) q1 q2 (by simpa using q))
theorem pi_range2 {a b : Expr} {ta : TA} {p pos : Pos} (hg : Gl X "range") (hm : X.mg "range" = none) (ha : PA X [a, b] ta) (hs : starEach [a, b] X.env = [(false, eval a X.env), (false, eval b X.env)] := by rfl) (hs2 : starEach [b] X.env = [(false, eval b X.env)] := by rfl) :
    PI X tg (.Call (.Name "range" p) [a, b] [] pos) (iRng2 ta) := by
  intro pins s σ H R I h
  refine Call_ (ld_blt I hg hm boot_range (PyProof.Rows.callWith_type1 (thn (ha pos pins s σ H _ I h) fun us s1 ⟨vs, H1, I1, r1, q1⟩ => ?_) (by rw [hs, hs2]) (by rw [hs2]; rfl)))
  obtain ⟨i, j, e, ⟨q1, q2, q3, q4⟩, q⟩ := q1
  subst e
  cases r1 with
  | cons r rr =>
    cases rr with
    | cons r' rr =>
      cases rr
      obtain ⟨t, rfl⟩ := r
      obtain ⟨t', rfl⟩ := r'
      exact call_range_2 (range_it I1 q1 q2 q3 q4 q)

/-! ### for -/
/-- W: the invariant by the turn and a measure; N: what the body is to reach -/
def tFor (wi : TI) (g : TG) (tb : TS) : TS := fun D σ H => wi σ H fun J H1 => ∃ W : Nat → Nat → St → Hp → Prop, (∃ m, W 0 m σ H1) ∧ ∀ i m σ H, W i m σ H →
  (J.stop i H ∧ D.nx σ H) ∨ (J.go i H ∧ ∃ N : St → Hp → Prop, (∀ σ' H', N σ' H' → ∃ m', m' < m ∧ W (i + 1) m' σ' H') ∧ ∀ x H', J.yld i H x H' → g x σ H' fun σ2 H2 => tb { D with nx := N, ct := N, bk := D.nx } σ2 H2)
/-- the records at fp as they stand -/
def pinsAt (fp : List Addr) (h : Heap) : List (Addr × Obj) := fp.filterMap fun b => (h.get? b).map fun o => (b, o)
theorem mem_pinsAt {fp : List Addr} {h : Heap} {b : Addr} {o : Obj} (hb : b ∈ fp) (e : h.get? b = some o) : (b, o) ∈ pinsAt fp h := List.mem_filterMap.mpr ⟨b, hb, by rw [e]; rfl⟩
theorem of_pinsAt {fp : List Addr} {h : Heap} {p : Addr × Obj} (hp : p ∈ pinsAt fp h) : p.1 ∈ fp ∧ h.get? p.1 = some p.2 := by
  obtain ⟨b, hb, e⟩ := List.mem_filterMap.mp hp
  cases q : h.get? b with
  | none => rw [q] at e; cases e
  | some o =>
    rw [q] at e
    have e' : (b, o) = p := Option.some.inj e
    subst e'
    exact ⟨hb, q⟩
theorem Inv.pinned {pins : List (Addr × Obj)} {σ : St} {H : Hp} {s : Shared} {fp : List Addr} (I : Inv X pins σ H s) (hf : ∀ b ∈ fp, FpOk X pins H b) (ho : ∀ b ∈ fp, ∃ o, s.heap.get? b = some o ∧ ∀ v, o.data ≠ .cell v) : Inv X (pins ++ pinsAt fp s.heap) σ H s :=
  I.pins_of fun p hp => (List.mem_append.mp hp).elim (fun z => I.pin p (List.mem_append_right _ z)) fun z => by
    obtain ⟨hb, e⟩ := of_pinsAt z
    obtain ⟨f0, f1, f2, _⟩ := hf p.1 hb
    obtain ⟨o, e', d⟩ := ho p.1 hb
    rw [e] at e'; cases e'
    exact ⟨e, f0, f1, f2, d⟩
theorem Inv.unpinned {pins pl : List (Addr × Obj)} {σ : St} {H : Hp} {s : Shared} (I : Inv X (pins ++ pl) σ H s) : Inv X pins σ H s := I.pins_of fun p hp => I.pin p (List.mem_append_right _ (List.mem_append_left _ hp))
theorem ps_for {iter : Expr} {body : List Stmt} {wi : TI} {g : TG} {tb : TS} {pos : Pos} (hp : PassesOwn (model X.prog X.w) X.A X.env X.xe) (hc : X.calm = true) (hi : PI X tg iter wi) (hg : PG X tg g) (hb : PSs X body tb)
    (hs : ∀ x, foldedSetIterable iter X.env x = pure x := by intro _; rfl) : PS X (.For tg iter body [] pos) (tFor wi g tb) := by
  intro pins s σ H D I h
  refine wpAny_For (thn (hi pins s σ H _ I h) fun v s1 h1 => thn h1 fun itv s2 h2 => ?_) hs
  obtain ⟨it, fp, tn, J, H2, e, I2, T, st2, f2, W, ⟨m0, w0⟩, turn⟩ := h2
  subst e
  -- what stays true of the iterator's objects through the loop
  have stat : ∀ {H' : Hp}, (∀ b ∈ fp, H' b = none) → ∀ b ∈ fp, FpOk X pins H' b := fun hn b hb => ⟨hn b hb, (f2 b hb).2⟩
  refine codeAny_forLoop_any (fun n s' => ∃ i σ' H', Inv X pins σ' H' s' ∧ tn i s'.heap ∧ (∀ b ∈ fp, H' b = none) ∧ W i n σ' H') ?_ m0 ⟨0, σ, H2, I2, st2, fun b hb => (f2 b hb).1, w0⟩
  rintro n s3 ⟨i, σ3, H3, I3, st3, fr3, w3⟩
  rcases turn i n σ3 H3 w3 with ⟨stop, qn⟩ | ⟨go, N, hN, step⟩
  · refine wpAny_passesOwn hp (thn (T.done X rfl rfl rfl hc i pins s3 σ3 H3 X.xe I3 (stat fr3) st3 stop) fun r s4 ⟨hr, I4⟩ => ?_)
    subst hr
    exact wpAny_execs_nil ⟨σ3, H3, I4, qn⟩
  · refine wpAny_passesOwn hp (thn (T.item X rfl rfl rfl hc i pins s3 σ3 H3 X.xe I3 (stat fr3) st3 go) fun r s4 ⟨u, hr, h4⟩ => ?_)
    subst hr
    refine wpAny_passesOwn hp (thn h4 fun _ s5 ⟨x, H5, I5, r5, y5, st5, fr5⟩ => ?_)
    have I5' := I5.pinned (stat fr5) (T.obj _ _ st5)
    refine wpAny_passesOwn hp (thn (hg _ s5 σ3 H5 x u _ I5' r5 (step x H5 y5)) fun _ s6 ⟨σ6, H6, I6, q6⟩ => ?_)
    refine wpAny_passesOwn hp (thn (hb _ s6 σ6 H6 _ I6 q6) fun f s7 q7 => ?_)
    have again : ∀ {σ7 : St} {H7 : Hp}, Inv X (pins ++ pinsAt fp s5.heap) σ7 H7 s7 → N σ7 H7 → ∃ m, m < n ∧ ∃ i σ' H', Inv X pins σ' H' s7 ∧ tn i s7.heap ∧ (∀ b ∈ fp, H' b = none) ∧ W i m σ' H' := fun {σ7 H7} I7 n7 => by
      obtain ⟨m', hm, w7⟩ := hN σ7 H7 n7
      refine ⟨m', hm, i + 1, σ7, H7, I7.unpinned, T.keep _ _ _ st5 fun b hb o e => (I7.pin (b, o) (List.mem_append_right _ (List.mem_append_right _ (mem_pinsAt hb e)))).1, fun b hb => ?_, w7⟩
      obtain ⟨o, e, d⟩ := T.obj _ _ st5 b hb
      exact (I7.pin (b, o) (List.mem_append_right _ (List.mem_append_right _ (mem_pinsAt hb e)))).2.1
    cases f with
    | next => obtain ⟨σ7, H7, I7, n7⟩ := q7; exact again I7 n7
    | cont => obtain ⟨σ7, H7, I7, n7⟩ := q7; exact again I7 n7
    | brk => obtain ⟨σ7, H7, I7, q7⟩ := q7; exact ⟨σ7, H7, I7.unpinned, q7⟩
    | ret v => obtain ⟨x7, σ7, H7, I7, r7, q7⟩ := q7; exact ⟨x7, σ7, H7, I7.unpinned, r7, q7⟩
end

/-! ### the forms one uses -/
/-- over a list that the body leaves as it is -/
theorem for_list {K : PySem.W.Frag} {a : Addr} {xs : List V} {g : TG} {tb : TS} {D : Ends} {σ : St} {H : Hp} (Pv : Nat → St → Hp → Prop) (h0 : Pv 0 σ H) (hl : ∀ i σ H, i ≤ xs.length → Pv i σ H → SqL K H a xs)
    (hs : ∀ i x σ H, xs[i]? = some x → Pv i σ H → g x σ H fun σ2 H2 => tb { D with nx := Pv (i + 1), ct := Pv (i + 1), bk := D.nx } σ2 H2) (hd : ∀ σ H, Pv xs.length σ H → D.nx σ H) :
    ∃ W : Nat → Nat → St → Hp → Prop, (∃ m, W 0 m σ H) ∧ ∀ i m σ H, W i m σ H →
      ((Itl K a).stop i H ∧ D.nx σ H) ∨ ((Itl K a).go i H ∧ ∃ N : St → Hp → Prop, (∀ σ' H', N σ' H' → ∃ m', m' < m ∧ W (i + 1) m' σ' H') ∧ ∀ x H', (Itl K a).yld i H x H' → g x σ H' fun σ2 H2 => tb { D with nx := N, ct := N, bk := D.nx } σ2 H2) := by
  refine ⟨fun i m σ H => m = xs.length - i ∧ i ≤ xs.length ∧ Pv i σ H, ⟨xs.length, by simp, Nat.zero_le _, h0⟩, ?_⟩
  rintro i m σ H ⟨rfl, hi, p⟩
  have q := hl i σ H hi p
  by_cases hlt : i < xs.length
  · refine .inr ⟨⟨xs, xs[i], q, by simp [hlt]⟩, Pv (i + 1), fun σ' H' p' => ⟨xs.length - (i + 1), by omega, rfl, hlt, p'⟩, fun x H' y => ?_⟩
    obtain ⟨e, y⟩ := y
    subst e
    exact hs i x σ _ (y xs q) p
  · have e : i = xs.length := by omega
    subst e
    exact .inl ⟨⟨xs, q, Nat.le_refl _⟩, hd σ H p⟩
theorem for_tup {K : PySem.W.Frag} {a : Addr} {xs : List V} {g : TG} {tb : TS} {D : Ends} {σ : St} {H : Hp} (Pv : Nat → St → Hp → Prop) (h0 : Pv 0 σ H) (hl : ∀ i σ H, i ≤ xs.length → Pv i σ H → SqT K H a xs)
    (hs : ∀ i x σ H, xs[i]? = some x → Pv i σ H → g x σ H fun σ2 H2 => tb { D with nx := Pv (i + 1), ct := Pv (i + 1), bk := D.nx } σ2 H2) (hd : ∀ σ H, Pv xs.length σ H → D.nx σ H) :
    ∃ W : Nat → Nat → St → Hp → Prop, (∃ m, W 0 m σ H) ∧ ∀ i m σ H, W i m σ H →
      ((Itt K a).stop i H ∧ D.nx σ H) ∨ ((Itt K a).go i H ∧ ∃ N : St → Hp → Prop, (∀ σ' H', N σ' H' → ∃ m', m' < m ∧ W (i + 1) m' σ' H') ∧ ∀ x H', (Itt K a).yld i H x H' → g x σ H' fun σ2 H2 => tb { D with nx := N, ct := N, bk := D.nx } σ2 H2) := by
  refine ⟨fun i m σ H => m = xs.length - i ∧ i ≤ xs.length ∧ Pv i σ H, ⟨xs.length, by simp, Nat.zero_le _, h0⟩, ?_⟩
  rintro i m σ H ⟨rfl, hi, p⟩
  have q := hl i σ H hi p
  by_cases hlt : i < xs.length
  · refine .inr ⟨⟨xs, xs[i], q, by simp [hlt]⟩, Pv (i + 1), fun σ' H' p' => ⟨xs.length - (i + 1), by omega, rfl, hlt, p'⟩, fun x H' y => ?_⟩
    obtain ⟨e, y⟩ := y
    subst e
    exact hs i x σ _ (y xs q) p
  · have e : i = xs.length := by omega
    subst e
    exact .inl ⟨⟨xs, q, Nat.le_refl _⟩, hd σ H p⟩
theorem for_range {lo : Int} {n : Nat} {g : TG} {tb : TS} {D : Ends} {σ : St} {H : Hp} (Pv : Nat → St → Hp → Prop) (h0 : Pv 0 σ H)
    (hs : ∀ i σ H, i < n → Pv i σ H → g (.int (lo + i)) σ H fun σ2 H2 => tb { D with nx := Pv (i + 1), ct := Pv (i + 1), bk := D.nx } σ2 H2) (hd : ∀ σ H, Pv n σ H → D.nx σ H) :
    ∃ W : Nat → Nat → St → Hp → Prop, (∃ m, W 0 m σ H) ∧ ∀ i m σ H, W i m σ H →
      ((Itr lo n).stop i H ∧ D.nx σ H) ∨ ((Itr lo n).go i H ∧ ∃ N : St → Hp → Prop, (∀ σ' H', N σ' H' → ∃ m', m' < m ∧ W (i + 1) m' σ' H') ∧ ∀ x H', (Itr lo n).yld i H x H' → g x σ H' fun σ2 H2 => tb { D with nx := N, ct := N, bk := D.nx } σ2 H2) := by
  refine ⟨fun i m σ H => m = n - i ∧ i ≤ n ∧ Pv i σ H, ⟨n, by simp, Nat.zero_le _, h0⟩, ?_⟩
  rintro i m σ H ⟨rfl, hi, p⟩
  by_cases hlt : i < n
  · refine .inr ⟨hlt, Pv (i + 1), fun σ' H' p' => ⟨n - (i + 1), by omega, rfl, hlt, p'⟩, fun x H' y => ?_⟩
    obtain ⟨e, y⟩ := y
    subst e y
    exact hs i σ _ hlt p
  · have e : i = n := by omega
    subst e
    exact .inl ⟨Nat.le_refl _, hd σ H p⟩
/-- while, by a word and a measure of the state -/
theorem while_by {c : TT} {tb : TS} {D : Ends} {σ : St} {H : Hp} (Pv : St → Hp → Prop) (μ : St → Hp → Nat) (h0 : Pv σ H)
    (hs : ∀ σ H, Pv σ H → c σ H fun b H1 => if b = true then tb { D with nx := fun σ' H' => Pv σ' H' ∧ μ σ' H' < μ σ H, ct := fun σ' H' => Pv σ' H' ∧ μ σ' H' < μ σ H, bk := D.nx } σ H1 else D.nx σ H1)
    (mono : ∀ σ H Q Q', (∀ b H1, Q b H1 → Q' b H1) → c σ H Q → c σ H Q') : tWhile c tb D σ H := by
  refine ⟨fun m σ H => m = μ σ H ∧ Pv σ H, ⟨_, rfl, h0⟩, ?_⟩
  rintro m σ H ⟨rfl, p⟩
  refine mono σ H _ _ (fun b H1 q => ?_) (hs σ H p)
  cases b with
  | true => exact ⟨_, fun σ' H' ⟨p', l⟩ => ⟨_, l, rfl, p'⟩, q⟩
  | false => exact q
end L2

namespace L2
open PySem PySem.Spec PyProof.Rows

abbrev R2 := V → V → Hp → VK → Prop
/-- a two-place operation on values: f is binaryOp op, inplaceOp op or compareOp op -/
def OpR (X : Cx) (f : Value → Value → Sem Value) (r : R2) : Prop :=
  ∀ (pins : List (Addr × Obj)) (s : Shared) (σ : St) (H : Hp) (x y : V) (v u : Value) (Q : VK), Inv X pins σ H s → RelV x v → RelV y u → r x y H Q →
    wpAny (model X.prog X.w) X.A (f v u) (EP X pins σ Q) X.xe s
/-- a one-place operation -/
def UnR (X : Cx) (f : Value → Sem Value) (r : V → Hp → VK → Prop) : Prop :=
  ∀ (pins : List (Addr × Obj)) (s : Shared) (σ : St) (H : Hp) (x : V) (v : Value) (Q : VK), Inv X pins σ H s → RelV x v → r x H Q →
    wpAny (model X.prog X.w) X.A (f v) (EP X pins σ Q) X.xe s
/-- a call of a value that is known (a builtin, a type) with values -/
def CallR (X : Cx) (f : Value) (r : List V → Hp → VK → Prop) : Prop :=
  ∀ (pins : List (Addr × Obj)) (s : Shared) (σ : St) (H : Hp) (xs : List V) (us : List Value) (Q : VK), Inv X pins σ H s → Vals xs us → r xs H Q →
    wpAny (model X.prog X.w) X.A (call f us) (EP X pins σ Q) X.xe s
/-- a value's truth -/
def TruR (X : Cx) (r : V → Hp → (Bool → Hp → Prop) → Prop) : Prop :=
  ∀ (pins : List (Addr × Obj)) (s : Shared) (σ : St) (H : Hp) (x : V) (v : Value) (Q : Bool → Hp → Prop), Inv X pins σ H s → RelV x v → r x H Q →
    wpAny (model X.prog X.w) X.A (truthy v) (TP X pins σ Q) X.xe s

def tOp (r : R2) (ta tb : TE) : TE := fun σ H Q => ta σ H fun x H1 => tb σ H1 fun y H2 => r x y H2 Q
def tUn (r : V → Hp → VK → Prop) (ta : TE) : TE := fun σ H Q => ta σ H fun x H1 => r x H1 Q
/-- ints in, under C, and a value out -/
def rI (C : Int → Int → Prop) (g : Int → Int → V) : R2 := fun x y H Q => ∃ i j, x = .int i ∧ y = .int j ∧ C i j ∧ Q (g i j) H
def rI0 (g : Int → Int → V) : R2 := fun x y H Q => ∃ i j, x = .int i ∧ y = .int j ∧ Q (g i j) H
def rU (g : Int → V) : V → Hp → VK → Prop := fun x H Q => ∃ i, x = .int i ∧ Q (g i) H

section
variable {X : Cx} {a b c : Expr} {ta tb tc : TE} {pos : Pos}

theorem binT (ha : PE X a ta) (hb : PE X b tb) {pins : List (Addr × Obj)} {s : Shared} {σ : St} {H : Hp} {R : V → V → Hp → Prop} (I : Inv X pins σ H s)
    (h : ta σ H fun x H1 => tb σ H1 fun y H2 => R x y H2) {Q : Value → Shared → Prop} {f : Value → Value → Sem Value}
    (hf : ∀ v u s2 x y H2, Inv X pins σ H2 s2 → RelV x v → RelV y u → R x y H2 → wpAny (model X.prog X.w) X.A (f v u) Q X.xe s2) :
    wpAny (model X.prog X.w) X.A (eval a X.env) (fun v s₁ => wpAny (model X.prog X.w) X.A (eval b X.env) (fun u s₂ => wpAny (model X.prog X.w) X.A (f v u) Q X.xe s₂) X.xe s₁) X.xe s := by
  refine thn (ha pins s σ H _ I h) fun v s1 ⟨x, H1, I1, r1, q1⟩ => ?_
  refine thn (hb pins s1 σ H1 _ I1 q1) fun u s2 ⟨y, H2, I2, r2, q2⟩ => ?_
  exact hf v u s2 x y H2 I2 r1 r2 q2

theorem pe_op {op : Operator} {r : R2} (ho : OpR X (binaryOp op) r) (ha : PE X a ta) (hb : PE X b tb) : PE X (.BinOp a op b pos) (tOp r ta tb) := by
  intro pins s σ H Q I h
  exact wpAny_BinOp (binT ha hb I h fun v u s2 x y H2 I2 rx ry q => ho pins s2 σ H2 x y v u Q I2 rx ry q)
theorem pe_un {op : UnaryOp} {r : V → Hp → VK → Prop} (ho : UnR X (unaryOp op) r) (ha : PE X a ta) : PE X (.UnaryOp op a pos) (tUn r ta) := by
  intro pins s σ H Q I h
  exact UnaryOp_ (thn (ha pins s σ H _ I h) fun v s1 ⟨x, H1, I1, r1, q1⟩ => ho pins s1 σ H1 x v Q I1 r1 q1)
/-- a op= e at a name: the name's slot i -/
theorem augR {op : Operator} {r : R2} (ho : OpR X (inplaceOp op) r) {pins : List (Addr × Obj)} {s : Shared} {σ : St} {H : Hp} {x y : V} {v u : Value} {Q : VK} (I : Inv X pins σ H s)
    (rx : RelV x v) (ry : RelV y u) (q : r x y H Q) : wpAny (model X.prog X.w) X.A (inplaceOp op v u) (EP X pins σ Q) X.xe s := ho pins s σ H x y v u Q I rx ry q

/-! ### ints -/
theorem opI {f : Value → Value → Sem Value} {C : Int → Int → Prop} {g : Int → Int → Int}
    (rule : ∀ (i j : Int) (t u : Tok) (s : Shared) (Q : Value → Shared → Prop) (E : Value → Shared → Prop), C i j → Q (.int (g i j) s.toks) { s with toks := s.toks + 1 } → wpAny (model X.prog X.w) X.A (f (.int i t) (.int j u)) Q E s) :
    OpR X f (rI C fun i j => .int (g i j)) := by
  intro pins s σ H x y v u Q I rx ry h
  obtain ⟨i, j, rfl, rfl, hc, q⟩ := h
  obtain ⟨t, rfl⟩ := rx
  obtain ⟨t', rfl⟩ := ry
  exact rule i j t t' s _ _ hc ⟨.int (g i j), H, I.tok _, ⟨_, rfl⟩, q⟩
theorem opI0 {f : Value → Value → Sem Value} {g : Int → Int → Int}
    (rule : ∀ (i j : Int) (t u : Tok) (s : Shared) (Q : Value → Shared → Prop) (E : Value → Shared → Prop), Q (.int (g i j) s.toks) { s with toks := s.toks + 1 } → wpAny (model X.prog X.w) X.A (f (.int i t) (.int j u)) Q E s) :
    OpR X f (rI0 fun i j => .int (g i j)) := by
  intro pins s σ H x y v u Q I rx ry h
  obtain ⟨i, j, rfl, rfl, q⟩ := h
  obtain ⟨t, rfl⟩ := rx
  obtain ⟨t', rfl⟩ := ry
  exact rule i j t t' s _ _ ⟨.int (g i j), H, I.tok _, ⟨_, rfl⟩, q⟩
theorem opB0 {f : Value → Value → Sem Value} {g : Int → Int → Bool}
    (rule : ∀ (i j : Int) (t u : Tok) (s : Shared) (Q : Value → Shared → Prop) (E : Value → Shared → Prop), Q (.bool (g i j)) s → wpAny (model X.prog X.w) X.A (f (.int i t) (.int j u)) Q E s) :
    OpR X f (rI0 fun i j => .bl (g i j)) := by
  intro pins s σ H x y v u Q I rx ry h
  obtain ⟨i, j, rfl, rfl, q⟩ := h
  obtain ⟨t, rfl⟩ := rx
  obtain ⟨t', rfl⟩ := ry
  exact rule i j t t' s _ _ ⟨.bl (g i j), H, I, rfl, q⟩

def CDiv (i j : Int) : Prop := 0 < j ∧ j < 1073741824
def CDivN (i j : Int) : Prop := j ≠ 0 ∧ j.natAbs < 1073741824
def CPow (i j : Int) : Prop := 0 ≤ j ∧ j ≤ 1000000 ∧ i.natAbs < 2 ^ 64
def CMul (i j : Int) : Prop := (-(2 ^ 64) < i ∧ i < 2 ^ 64) ∨ (-(2 ^ 64) < j ∧ j < 2 ^ 64)
theorem CMul.ok {i j : Int} (h : CMul i j) : IntMulOk i j := by
  rcases h with ⟨h1, h2⟩ | ⟨h1, h2⟩
  · exact .of_left (intBits_le_64 h1 h2)
  · exact .of_right (intBits_le_64 h1 h2)
theorem two_pow_nn (k : Nat) : (0 : Int) ≤ 2 ^ k := by
  rw [two_pow_cast]
  exact Int.natCast_nonneg _

theorem op_add : OpR X (binaryOp .Add) (rI0 fun i j => .int (i + j)) := opI0 fun _ _ _ _ _ _ _ q => add_int q
theorem op_sub : OpR X (binaryOp .Sub) (rI0 fun i j => .int (i - j)) := opI0 fun _ _ _ _ _ _ _ q => sub_int q
theorem op_mul : OpR X (binaryOp .Mult) (rI CMul fun i j => .int (i * j)) := opI fun _ _ _ _ _ _ _ hc q => mul_int q hc.ok
/-- // by a positive divisor -/
theorem op_fdiv : OpR X (binaryOp .FloorDiv) (rI CDiv fun i j => .int (i / j)) := opI fun i j _ _ _ _ _ hc q => by
  have h1 : (0 : Int) < j := hc.1
  have h2 : j < 1073741824 := hc.2
  exact floordiv_int (by omega) (by rw [Int.fdiv_eq_ediv_of_nonneg i (by omega)]; exact q) (.inl (PyProof.noPylong_small (by omega)))
theorem op_fdivN : OpR X (binaryOp .FloorDiv) (rI CDivN fun i j => .int (i.fdiv j)) := opI fun _ _ _ _ _ _ _ hc q => floordiv_int hc.1 q (.inl (PyProof.noPylong_small hc.2))
/-- % by a positive divisor of any size -/
theorem op_mod : OpR X (binaryOp .Mod) (rI (fun _ j => 0 < j) fun i j => .int (i % j)) := opI fun i j _ _ _ _ _ hc q => by
  have h1 : (0 : Int) < j := hc
  exact mod_int' (by omega) (by rw [Int.fmod_eq_emod_of_nonneg i (by omega)]; exact q)
theorem op_modN : OpR X (binaryOp .Mod) (rI (fun _ j => j ≠ 0) fun i j => .int (i.fmod j)) := opI fun _ _ _ _ _ _ _ hc q => mod_int' hc q
theorem op_pow : OpR X (binaryOp .Pow) (rI CPow fun i j => .int (i ^ j.toNat)) := opI fun _ _ _ _ _ _ _ hc q => pow_int_small hc.1 hc.2.1 hc.2.2 q
theorem op_shl : OpR X (binaryOp .LShift) (rI CPow fun i j => .int (i * 2 ^ j.toNat)) := opI fun _ _ _ _ _ _ _ hc q => lshift_int_small hc.1 hc.2.1 hc.2.2 q
theorem op_shr : OpR X (binaryOp .RShift) (rI (fun _ j => 0 ≤ j) fun i j => .int (i / 2 ^ j.toNat)) := opI fun i j _ _ _ _ _ hc q =>
  rshift_int hc (by rw [Int.fdiv_eq_ediv_of_nonneg i (two_pow_nn _)]; exact q)
theorem op_and : OpR X (binaryOp .BitAnd) (rI0 fun i j => .int (Builtin.bitAnd i j)) := opI0 fun _ _ _ _ _ _ _ q => and_int q
theorem op_or : OpR X (binaryOp .BitOr) (rI0 fun i j => .int (Builtin.bitOr i j)) := opI0 fun _ _ _ _ _ _ _ q => or_int q
theorem op_xor : OpR X (binaryOp .BitXor) (rI0 fun i j => .int (Builtin.bitXor i j)) := opI0 fun _ _ _ _ _ _ _ q => xor_int q

theorem iop_add : OpR X (inplaceOp .Add) (rI0 fun i j => .int (i + j)) := opI0 fun _ _ _ _ _ _ _ q => iadd_int q
theorem iop_sub : OpR X (inplaceOp .Sub) (rI0 fun i j => .int (i - j)) := opI0 fun _ _ _ _ _ _ _ q => isub_int q
theorem iop_mul : OpR X (inplaceOp .Mult) (rI CMul fun i j => .int (i * j)) := opI fun _ _ _ _ _ _ _ hc q => imul_int q hc.ok
theorem iop_fdiv : OpR X (inplaceOp .FloorDiv) (rI CDiv fun i j => .int (i / j)) := opI fun i j _ _ _ _ _ hc q => by
  have h1 : (0 : Int) < j := hc.1
  have h2 : j < 1073741824 := hc.2
  exact ifloordiv_int (by omega) (by rw [Int.fdiv_eq_ediv_of_nonneg i (by omega)]; exact q) (.inl (PyProof.noPylong_small (by omega)))
theorem iop_mod : OpR X (inplaceOp .Mod) (rI (fun _ j => 0 < j) fun i j => .int (i % j)) := opI fun i j _ _ _ _ _ hc q => by
  have h1 : (0 : Int) < j := hc
  exact imod_int (by omega) (by rw [Int.fmod_eq_emod_of_nonneg i (by omega)]; exact q)
theorem iop_shl : OpR X (inplaceOp .LShift) (rI CPow fun i j => .int (i * 2 ^ j.toNat)) := opI fun _ _ _ _ _ _ _ hc q => ilshift_int_small hc.1 hc.2.1 hc.2.2 q
theorem iop_shr : OpR X (inplaceOp .RShift) (rI (fun _ j => 0 ≤ j) fun i j => .int (i / 2 ^ j.toNat)) := opI fun i j _ _ _ _ _ hc q =>
  irshift_int hc (by rw [Int.fdiv_eq_ediv_of_nonneg i (two_pow_nn _)]; exact q)
theorem iop_and : OpR X (inplaceOp .BitAnd) (rI0 fun i j => .int (Builtin.bitAnd i j)) := opI0 fun _ _ _ _ _ _ _ q => iand_int q
theorem iop_or : OpR X (inplaceOp .BitOr) (rI0 fun i j => .int (Builtin.bitOr i j)) := opI0 fun _ _ _ _ _ _ _ q => ior_int q
theorem iop_xor : OpR X (inplaceOp .BitXor) (rI0 fun i j => .int (Builtin.bitXor i j)) := opI0 fun _ _ _ _ _ _ _ q => ixor_int q

theorem unI {f : Value → Sem Value} {g : Int → Int}
    (rule : ∀ (i : Int) (t : Tok) (s : Shared) (Q : Value → Shared → Prop) (E : Value → Shared → Prop), Q (.int (g i) s.toks) { s with toks := s.toks + 1 } → wpAny (model X.prog X.w) X.A (f (.int i t)) Q E s) :
    UnR X f (rU fun i => .int (g i)) := by
  intro pins s σ H x v Q I rx h
  obtain ⟨i, rfl, q⟩ := h
  obtain ⟨t, rfl⟩ := rx
  exact rule i t s _ _ ⟨.int (g i), H, I.tok _, ⟨_, rfl⟩, q⟩
theorem un_neg : UnR X (unaryOp .USub) (rU fun i => .int (-i)) := unI fun _ _ _ _ _ q => neg_int q
theorem un_inv : UnR X (unaryOp .Invert) (rU fun i => .int (Builtin.bitNot i)) := unI fun _ _ _ _ _ q => invert_int q

/-! ### bools among ints: n += (a < b) -/
theorem op_add_ib : OpR X (binaryOp .Add) (fun x y H Q => ∃ i k, x = .int i ∧ y = .bl k ∧ Q (.int (i + b2i k)) H) := by
  intro pins s σ H x y v u Q I rx ry h
  obtain ⟨i, k, rfl, rfl, q⟩ := h
  obtain ⟨t, rfl⟩ := rx
  cases ry
  exact add_int_bool ⟨.int (i + b2i k), H, I.tok _, ⟨_, rfl⟩, q⟩
end

/-! ### comparisons -/
/-- the scalars that == tells apart as data does -/
def scal : V → V → Bool
  | .non, .non => true | .non, .int _ => true | .int _, .non => true | .non, .bl _ => true | .bl _, .non => true | .non, .str _ => true | .str _, .non => true
  | .int _, .int _ => true | .bl _, .bl _ => true | .str _, .str _ => true | .byt _, .byt _ => true
  | .int _, .str _ => true | .str _, .int _ => true | .bl _, .str _ => true | .str _, .bl _ => true
  | _, _ => false
def rEq : R2 := fun x y H Q => scal x y = true ∧ Q (.bl (decide (x = y))) H
def rNe : R2 := fun x y H Q => scal x y = true ∧ Q (.bl (!decide (x = y))) H

theorem dec_int {i j : Int} : decide (V.int i = V.int j) = (i == j) := by
  rw [Bool.eq_iff_iff]
  simp
theorem dec_bl {i j : Bool} : decide (V.bl i = V.bl j) = (i == j) := by
  rw [Bool.eq_iff_iff]
  simp
theorem dec_str {i j : Str} : decide (V.str i = V.str j) = (i == j) := by
  rw [Bool.eq_iff_iff]
  simp
theorem dec_byt {i j : Array UInt8} : decide (V.byt i = V.byt j) = (i.toList == j.toList) := by
  rw [Bool.eq_iff_iff]
  cases i
  cases j
  simp

section
variable {X : Cx} {a b c : Expr} {ta tb tc : TE} {pos : Pos}
theorem fin_bl {pins : List (Addr × Obj)} {σ : St} {H : Hp} {s : Shared} {Q : VK} {k k' : Bool} (I : Inv X pins σ H s) (q : Q (.bl k) H) (e : k = k') : EP X pins σ Q (.bool k') s := by
  subst e
  exact ⟨.bl k, H, I, rfl, q⟩
theorem op_eq : OpR X (compareOp .Eq) rEq := by
  intro pins s σ H x y v u Q I rx ry h
  obtain ⟨hs, q⟩ := h
  cases x with
  | non =>
    cases rx
    cases y with
    | non => cases ry; exact PySem.EqNone.eq_none_none (fin_bl I q (by simp))
    | bl j => cases ry; exact PySem.EqNone.eq_none_bool (fin_bl I q (by simp))
    | int j => obtain ⟨t', rfl⟩ := ry; exact PySem.EqNone.eq_none_int (fin_bl I q (by simp))
    | str j => obtain ⟨t', rfl⟩ := ry; exact PySem.EqNone.eq_none_str (fin_bl I q (by simp))
    | _ => exact absurd (show false = true from hs) Bool.false_ne_true
  | bl i =>
    cases rx
    cases y with
    | non => cases ry; exact PySem.EqNone.eq_bool_none (fin_bl I q (by simp))
    | bl j => cases ry; exact eq_bool (fin_bl I q dec_bl)
    | str j => obtain ⟨t', rfl⟩ := ry; exact PySem.EqMixed.eq_bool_str (fin_bl I q (by simp))
    | _ => exact absurd (show false = true from hs) Bool.false_ne_true
  | int i =>
    obtain ⟨t, rfl⟩ := rx
    cases y with
    | non => cases ry; exact PySem.EqNone.eq_int_none (fin_bl I q (by simp))
    | int j => obtain ⟨t', rfl⟩ := ry; exact eq_int (fin_bl I q dec_int)
    | str j => obtain ⟨t', rfl⟩ := ry; exact PySem.EqMixed.eq_int_str (fin_bl I q (by simp))
    | _ => exact absurd (show false = true from hs) Bool.false_ne_true
  | str i =>
    obtain ⟨t, rfl⟩ := rx
    cases y with
    | non => cases ry; exact PySem.EqNone.eq_str_none (fin_bl I q (by simp))
    | bl j => cases ry; exact PySem.EqMixed.eq_str_bool (fin_bl I q (by simp))
    | int j => obtain ⟨t', rfl⟩ := ry; exact PySem.EqMixed.eq_str_int (fin_bl I q (by simp))
    | str j => obtain ⟨t', rfl⟩ := ry; exact eq_str (fin_bl I q dec_str)
    | _ => exact absurd (show false = true from hs) Bool.false_ne_true
  | byt i =>
    obtain ⟨t, rfl⟩ := rx
    cases y with
    | byt j => obtain ⟨t', rfl⟩ := ry; exact PySem.W.eq_bytes (fin_bl I q dec_byt)
    | _ => exact absurd (show false = true from hs) Bool.false_ne_true
  | _ => cases y <;> exact absurd (show false = true from hs) Bool.false_ne_true
theorem op_ne : OpR X (compareOp .NotEq) rNe := by
  intro pins s σ H x y v u Q I rx ry h
  obtain ⟨hs, q⟩ := h
  cases x with
  | non =>
    cases rx
    cases y with
    | non => cases ry; exact PySem.EqNone.ne_none_none (fin_bl I q (by simp))
    | bl j => cases ry; exact PySem.EqNone.ne_none_bool (fin_bl I q (by simp))
    | int j => obtain ⟨t', rfl⟩ := ry; exact PySem.EqNone.ne_none_int (fin_bl I q (by simp))
    | str j => obtain ⟨t', rfl⟩ := ry; exact PySem.EqNone.ne_none_str (fin_bl I q (by simp))
    | _ => exact absurd (show false = true from hs) Bool.false_ne_true
  | bl i =>
    cases rx
    cases y with
    | non => cases ry; exact PySem.EqNone.ne_bool_none (fin_bl I q (by simp))
    | bl j => cases ry; exact ne_bool (fin_bl I q (congrArg not dec_bl))
    | str j => obtain ⟨t', rfl⟩ := ry; exact PySem.EqMixed.ne_bool_str (fin_bl I q (by simp))
    | _ => exact absurd (show false = true from hs) Bool.false_ne_true
  | int i =>
    obtain ⟨t, rfl⟩ := rx
    cases y with
    | non => cases ry; exact PySem.EqNone.ne_int_none (fin_bl I q (by simp))
    | int j => obtain ⟨t', rfl⟩ := ry; exact ne_int (fin_bl I q (congrArg not dec_int))
    | str j => obtain ⟨t', rfl⟩ := ry; exact PySem.EqMixed.ne_int_str (fin_bl I q (by simp))
    | _ => exact absurd (show false = true from hs) Bool.false_ne_true
  | str i =>
    obtain ⟨t, rfl⟩ := rx
    cases y with
    | non => cases ry; exact PySem.EqNone.ne_str_none (fin_bl I q (by simp))
    | bl j => cases ry; exact PySem.EqMixed.ne_str_bool (fin_bl I q (by simp))
    | int j => obtain ⟨t', rfl⟩ := ry; exact PySem.EqMixed.ne_str_int (fin_bl I q (by simp))
    | str j => obtain ⟨t', rfl⟩ := ry; exact ne_str (fin_bl I q (congrArg not dec_str))
    | _ => exact absurd (show false = true from hs) Bool.false_ne_true
  | byt i =>
    obtain ⟨t, rfl⟩ := rx
    cases y with
    | byt j => obtain ⟨t', rfl⟩ := ry; exact PySem.W.ne_bytes (fin_bl I q (congrArg not dec_byt))
    | _ => exact absurd (show false = true from hs) Bool.false_ne_true
  | _ => cases y <;> exact absurd (show false = true from hs) Bool.false_ne_true

theorem op_lt : OpR X (compareOp .Lt) (rI0 fun i j => .bl (decide (i < j))) := opB0 fun _ _ _ _ _ _ _ q => lt_int q
theorem op_le : OpR X (compareOp .LtE) (rI0 fun i j => .bl (decide (i ≤ j))) := opB0 fun _ _ _ _ _ _ _ q => le_int q
theorem op_gt : OpR X (compareOp .Gt) (rI0 fun i j => .bl (decide (j < i))) := opB0 fun _ _ _ _ _ _ _ q => gt_int q
theorem op_ge : OpR X (compareOp .GtE) (rI0 fun i j => .bl (decide (j ≤ i))) := opB0 fun _ _ _ _ _ _ _ q => ge_int q
theorem op_lt_str : OpR X (compareOp .Lt) (fun x y H Q => ∃ i j, x = .str i ∧ y = .str j ∧ Q (.bl (decide (i.cps.toList < j.cps.toList))) H) := by
  intro pins s σ H x y v u Q I rx ry h
  obtain ⟨i, j, rfl, rfl, q⟩ := h
  obtain ⟨t, rfl⟩ := rx
  obtain ⟨t', rfl⟩ := ry
  exact lt_str (fin_bl I q rfl)
/-- the one string within the other -/
theorem op_in_str : OpR X (compareOp .In) (fun x y H Q => ∃ i j, x = .str i ∧ y = .str j ∧ Q (.bl (!(Builtin.Str.occurrences j i 0 j.length 1).isEmpty)) H) := by
  intro pins s σ H x y v u Q I rx ry h
  obtain ⟨i, j, rfl, rfl, q⟩ := h
  obtain ⟨t, rfl⟩ := rx
  obtain ⟨t', rfl⟩ := ry
  exact in_str (fin_bl I q rfl)

/-- is None, is not None: the right side a value none -/
theorem op_isN : OpR X (compareOp .Is) (fun x y H Q => y = .non ∧ Q (.bl (decide (x = .non))) H) := by
  intro pins s σ H x y v u Q I rx ry h
  obtain ⟨rfl, q⟩ := h
  cases ry
  refine is_none_gen (fin_bl I q ?_)
  cases x <;> first
    | (cases rx; rfl)
    | (obtain ⟨t, rfl⟩ := rx; rfl)
theorem op_notN : OpR X (compareOp .IsNot) (fun x y H Q => y = .non ∧ Q (.bl (!decide (x = .non))) H) := by
  intro pins s σ H x y v u Q I rx ry h
  obtain ⟨rfl, q⟩ := h
  cases ry
  refine isnot_none_gen (fin_bl I q ?_)
  cases x <;> first
    | (cases rx; rfl)
    | (obtain ⟨t, rfl⟩ := rx; rfl)

theorem op_notin_str : OpR X (compareOp .NotIn) (fun x y H Q => ∃ i j, x = .str i ∧ y = .str j ∧ Q (.bl (!(!(Builtin.Str.occurrences j i 0 j.length 1).isEmpty))) H) := by
  intro pins s σ H x y v u Q I rx ry h
  obtain ⟨i, j, rfl, rfl, q⟩ := h
  obtain ⟨t, rfl⟩ := rx
  obtain ⟨t', rfl⟩ := ry
  exact notIn_str (fin_bl I q rfl)
/-- is, is not of two objects that are tracked lists or instances -/
def isObj : HO → Bool
  | .lst _ => true
  | .ins _ _ _ => true
  | _ => false
theorem obj_there {pins : List (Addr × Obj)} {s : Shared} {σ : St} {H : Hp} {a : Addr} {o : HO} (I : Inv X pins σ H s) (h : H a = some o) (p : isObj o = true) : ∃ ob, s.heap.get? a = some ob ∧ ob.cls ≠ .type "tuple" := by
  cases o with
  | lst xs =>
    obtain ⟨_, its, n, _, e⟩ : xs.length ≤ sizeLine ∧ ∃ (its : List Value) (n : Nat), Vals xs its ∧ s.heap.get? a = some { cls := .type "list", data := .seq its.toArray n } := I.hok a _ h
    exact ⟨_, e, (by show Value.type "list" ≠ .type "tuple"; decide +kernel)⟩
  | ins C dx fs =>
    have x := I.hok a _ h
    obtain ⟨_, _, _, e, _⟩ := x
    exact ⟨_, e, (by show Value.ref C ≠ .type "tuple"; exact fun z => by cases z)⟩
  | _ => exact absurd (show false = true from p) Bool.false_ne_true
theorem op_is_ref : OpR X (compareOp .Is) (fun x y H Q => ∃ a b oa ob, x = .ref a ∧ y = .ref b ∧ H a = some oa ∧ isObj oa = true ∧ H b = some ob ∧ isObj ob = true ∧ Q (.bl (decide (a = b))) H) := by
  intro pins s σ H x y v u Q I rx ry h
  obtain ⟨a, b, oa, ob, rfl, rfl, ha, pa, hb, pb, q⟩ := h
  cases rx
  cases ry
  obtain ⟨o1, e1, n1⟩ := obj_there I ha pa
  obtain ⟨o2, e2, _⟩ := obj_there I hb pb
  by_cases z : a = b
  · subst z
    exact wpAny_is_ref_self (fin_bl I q (by simp))
  · exact wpAny_is_ref_other z e1 e2 n1 (fin_bl I q (by simp [z]))
theorem op_isnot_ref : OpR X (compareOp .IsNot) (fun x y H Q => ∃ a b oa ob, x = .ref a ∧ y = .ref b ∧ H a = some oa ∧ isObj oa = true ∧ H b = some ob ∧ isObj ob = true ∧ Q (.bl (!decide (a = b))) H) := by
  intro pins s σ H x y v u Q I rx ry h
  obtain ⟨a, b, oa, ob, rfl, rfl, ha, pa, hb, pb, q⟩ := h
  cases rx
  cases ry
  obtain ⟨o1, e1, n1⟩ := obj_there I ha pa
  obtain ⟨o2, e2, _⟩ := obj_there I hb pb
  by_cases z : a = b
  · subst z
    exact wpAny_isNot_ref_self (fin_bl I q (by simp))
  · exact wpAny_isNot_ref_other z e1 e2 n1 (fin_bl I q (by simp [z]))

/-- two rules for one operation: by cases -/
theorem OpR.or {f : Value → Value → Sem Value} {r r' : R2} (h : OpR X f r) (h' : OpR X f r') : OpR X f (fun x y H Q => r x y H Q ∨ r' x y H Q) := by
  intro pins s σ H x y v u Q I rx ry q
  rcases q with q | q
  · exact h pins s σ H x y v u Q I rx ry q
  · exact h' pins s σ H x y v u Q I rx ry q

theorem nomark (b : Expr) {op : CmpOp} (h : op ≠ .In := by decide) (h2 : op ≠ .NotIn := by decide) : behindInMarks op b = false := by
  have e1 : (op == CmpOp.In) = false := by cases op <;> first | rfl | exact absurd rfl h
  have e2 : (op == CmpOp.NotIn) = false := by cases op <;> first | rfl | exact absurd rfl h2
  cases b <;> simp [behindInMarks, e1, e2]
/-- a comparison as a value; hm: nomark b, or (for in, not in) by with_unfolding_all rfl -/
theorem pe_cmpR {op : CmpOp} {r : R2} (ho : OpR X (compareOp op) r) (ha : PE X a ta) (hb : PE X b tb) (hm : behindInMarks op b = false) : PE X (.Compare a [op] [b] pos) (tOp r ta tb) := by
  intro pins s σ H Q I h
  exact wpAny_Compare1 (binT ha hb I h fun v u s2 x y H2 I2 rx ry q => ho pins s2 σ H2 x y v u Q I2 rx ry q) hm
/-- a reading of a value as a test -/
def tTest (t : TE) : TT := fun σ H Q => t σ H fun x H' => ∃ k, x = .bl k ∧ Q k H'
theorem pt_cmpR {op : CmpOp} {r : R2} (ho : OpR X (compareOp op) r) (ha : PE X a ta) (hb : PE X b tb) (hm : behindInMarks op b = false) : PT X (.Compare a [op] [b] pos) (tTest (tOp r ta tb)) := by
  intro pins s σ H Q I h
  refine wpAny_isTrue_Compare1 (thn (ha pins s σ H _ I h) fun v s1 ⟨x, H1, I1, r1, q1⟩ => thn (hb pins s1 σ H1 _ I1 q1) fun u s2 ⟨y, H2, I2, r2, q2⟩ =>
    thn (ho pins s2 σ H2 x y v u _ I2 r1 r2 q2) fun c s3 ⟨z, H3, I3, r3, k, e, q3⟩ => ?_) hm
  subst e
  cases r3
  exact wpAny_truthy_bool ⟨H3, I3, q3⟩
/-- a op1 b op2 c -/
def tChain (r r' : R2) (ta tb tc : TE) : TE := fun σ H Q => ta σ H fun x H1 => tb σ H1 fun y H2 => r x y H2 fun z H3 => ∃ k, z = .bl k ∧
  (if k = true then tc σ H3 fun w' H4 => r' y w' H4 Q else Q (.bl false) H3)
theorem pe_chain {op op' : CmpOp} {r r' : R2} (ho : OpR X (compareOp op) r) (ho' : OpR X (compareOp op') r') (ha : PE X a ta) (hb : PE X b tb) (hc : PE X c tc)
    (hm : lastMarks [op, op'] [b, c] = false := by with_unfolding_all rfl) : PE X (.Compare a [op, op'] [b, c] pos) (tChain r r' ta tb tc) := by
  intro pins s σ H Q I h
  refine Compare_chain (thn (ha pins s σ H _ I h) fun v s1 ⟨x, H1, I1, r1, q1⟩ => chain_link (thn (hb pins s1 σ H1 _ I1 q1) fun u s2 ⟨y, H2, I2, r2, q2⟩ =>
    thn (ho pins s2 σ H2 x y v u _ I2 r1 r2 q2) fun d s3 ⟨z, H3, I3, r3, k, e, q3⟩ => ?_)) hm
  subst e
  cases r3
  refine wpAny_truthy_bool ?_
  cases k with
  | false => exact ite_ff ⟨.bl false, H3, I3, rfl, q3⟩
  | true => exact ite_tt (chain_last (thn (hc pins s3 σ H3 _ I3 q3) fun w' s4 ⟨z', H4, I4, r4, q4⟩ => ho' pins s4 σ H4 y z' u w' Q I4 r2 r4 q4))
theorem pt_chain {op op' : CmpOp} {r r' : R2} (ho : OpR X (compareOp op) r) (ho' : OpR X (compareOp op') r') (ha : PE X a ta) (hb : PE X b tb) (hc : PE X c tc)
    (hm : lastMarks [op, op'] [b, c] = false := by with_unfolding_all rfl) : PT X (.Compare a [op, op'] [b, c] pos) (tTest (tChain r r' ta tb tc)) := by
  intro pins s σ H Q I h
  refine isTrue_chain (thn (ha pins s σ H _ I h) fun v s1 ⟨x, H1, I1, r1, q1⟩ => test_link (thn (hb pins s1 σ H1 _ I1 q1) fun u s2 ⟨y, H2, I2, r2, q2⟩ =>
    thn (ho pins s2 σ H2 x y v u _ I2 r1 r2 q2) fun d s3 ⟨z, H3, I3, r3, k, e, q3⟩ => ?_)) hm
  subst e
  cases r3
  refine wpAny_truthy_bool ?_
  cases k with
  | false =>
    obtain ⟨k', e', q'⟩ := q3
    cases e'
    exact ite_ff ⟨H3, I3, q'⟩
  | true =>
    refine ite_tt (test_last (thn (hc pins s3 σ H3 _ I3 q3) fun w' s4 ⟨z', H4, I4, r4, q4⟩ => thn (ho' pins s4 σ H4 y z' u w' _ I4 r2 r4 q4) fun d' s5 ⟨z2, H5, I5, r5, k2, e2, q5⟩ => ?_))
    subst e2
    cases r5
    exact wpAny_truthy_bool ⟨H5, I5, q5⟩

/-! ### truth -/
/-- a value's truth by the abstract heap -/
def TruV (K : PySem.W.Frag) (x : V) (H : Hp) (k : Bool) : Prop :=
  match x with
  | .non => k = false
  | .bl b => k = b
  | .int i => k = (i != 0)
  | .str y => y.length ≤ sizeLine ∧ k = ((y.length : Int) != 0)
  | .byt y => y.size ≤ sizeLine ∧ k = ((y.size : Int) != 0)
  | .ref p => (∃ xs, SqL K H p xs ∧ k = !xs.isEmpty) ∨ (∃ xs, SqT K H p xs ∧ k = !xs.isEmpty) ∨ ∃ kvs, H p = some (.dK kvs) ∧ k = !kvs.isEmpty
  | _ => False
theorem isEmpty_kv {κ : Type} {kvs : List (κ × V)} {vs : List (κ × Value)} (r : KV kvs vs) : (!vs.isEmpty) = !kvs.isEmpty := by
  cases r <;> rfl
theorem isEmpty_of {xs : List V} {its : List Value} (r : Vals xs its) : (!its.toArray.isEmpty) = !xs.isEmpty := by
  cases r <;> simp
theorem line63 : (sizeLine : Nat) < 2 ^ 63 := by rw [sizeLine_eq]; decide
theorem tru_ok : TruR X (fun x H Q => ∃ k, TruV X.K x H k ∧ Q k H) := by
  intro pins s σ H x v Q I rx h
  obtain ⟨k, e, q⟩ := h
  have hl := line63
  have hs : sizeLine = 16777216 := sizeLine_eq
  cases x with
  | non =>
    cases rx
    have e' : k = false := e
    subst e'
    exact truthy_none ⟨H, I, q⟩
  | bl b =>
    cases rx
    have e' : k = b := e
    subst e'
    exact wpAny_truthy_bool ⟨H, I, q⟩
  | int i =>
    obtain ⟨t, rfl⟩ := rx
    have e' : k = (i != 0) := e
    subst e'
    exact PySem.P.truthy_int ⟨H, I, q⟩
  | str y =>
    obtain ⟨t, rfl⟩ := rx
    obtain ⟨hy, e'⟩ : y.length ≤ sizeLine ∧ k = ((y.length : Int) != 0) := e
    subst e'
    exact PySem.P.truthy_str (by omega) ⟨H, I.tok _, q⟩
  | byt y =>
    obtain ⟨t, rfl⟩ := rx
    obtain ⟨hy, e'⟩ : y.size ≤ sizeLine ∧ k = ((y.size : Int) != 0) := e
    subst e'
    exact PySem.W.truthy_bytes (by omega) ⟨H, I.tok _, q⟩
  | ref p =>
    cases rx
    have e' : (∃ xs, SqL X.K H p xs ∧ k = !xs.isEmpty) ∨ (∃ xs, SqT X.K H p xs ∧ k = !xs.isEmpty) ∨ ∃ kvs, H p = some (.dK kvs) ∧ k = !kvs.isEmpty := e
    rcases e' with ⟨xs, hx, e'⟩ | ⟨xs, hx, e'⟩ | ⟨kvs, hx, e'⟩
    · subst e'
      obtain ⟨its, r, pl, hz⟩ := I.list hx
      have hlen := r.length
      exact wpAny_truthy_list pl.isList (by simp only [List.size_toArray]; omega) ⟨H, I.tok _, by rw [isEmpty_of r]; exact q⟩
    · subst e'
      obtain ⟨its, r, pl, hz⟩ := I.tuple hx
      have hlen := r.length
      exact truthy_tuple pl (by simp only [List.size_toArray]; omega) ⟨H, I.tok _, by rw [isEmpty_of r]; exact q⟩
    · subst e'
      obtain ⟨hz, hS, vs, r, m⟩ : kvs.length ≤ sizeLine ∧ (p == sysModules) = false ∧ ∃ vs, KV kvs vs ∧ s.heap.DictOf (mixKind X.prog X.w) p vs := I.hok p _ hx
      have hlen : kvs.length = vs.length := Paired.length r
      exact wpAny_truthy_dict hS m (by omega) ⟨H, I.tok _, by rw [isEmpty_kv r]; exact q⟩
  | _ => exact (show False from e).elim
/-- any expression whose test is its value's truth (a name, a call, a subscript, a field ..: he by fun _ => rfl) -/
theorem pt_truth (ha : PE X a ta) (he : ∀ whole, isTrue a X.env whole = (do let v ← whole; standAt a.pos; holding [v] (truthy v))) :
    PT X a (fun σ H Q => ta σ H fun x H' => ∃ k, TruV X.K x H' k ∧ Q k H') := by
  intro pins s σ H Q I h
  exact isTrue_plain (thn (ha pins s σ H _ I h) fun v s1 ⟨x, H1, I1, r1, q1⟩ => tru_ok pins s1 σ H1 x v Q I1 r1 q1) (he _)

/-! ### strs and bytes -/
theorem pe_byt {x : List UInt8} {k : Nat} : PE X (.Constant (.bytes x) k pos) (fun _ H Q => Q (.byt x.toArray) H) := fun _ _ _ H _ I h => PySem.W.Constant_bytes ⟨.byt x.toArray, H, I.tok _, ⟨_, rfl⟩, h⟩
theorem op_add_str : OpR X (binaryOp .Add) (fun x y H Q => ∃ i j, x = .str i ∧ y = .str j ∧ i.length + j.length ≤ sizeLine ∧ Q (.str (i ++ j)) H) := by
  intro pins s σ H x y v u Q I rx ry h
  obtain ⟨i, j, rfl, rfl, hz, q⟩ := h
  obtain ⟨t, rfl⟩ := rx
  obtain ⟨t', rfl⟩ := ry
  exact add_str (fun t' tk => ⟨.str (i ++ j), H, I.tok _, ⟨_, rfl⟩, q⟩) hz
theorem iop_add_str : OpR X (inplaceOp .Add) (fun x y H Q => ∃ i j, x = .str i ∧ y = .str j ∧ i.length + j.length ≤ sizeLine ∧ Q (.str (i ++ j)) H) := by
  intro pins s σ H x y v u Q I rx ry h
  obtain ⟨i, j, rfl, rfl, hz, q⟩ := h
  obtain ⟨t, rfl⟩ := rx
  obtain ⟨t', rfl⟩ := ry
  exact iadd_str (fun t' tk => ⟨.str (i ++ j), H, I.tok _, ⟨_, rfl⟩, q⟩) hz
theorem op_add_byt : OpR X (binaryOp .Add) (fun x y H Q => ∃ i j, x = .byt i ∧ y = .byt j ∧ i.size + j.size ≤ 16777216 ∧ Q (.byt (i ++ j)) H) := by
  intro pins s σ H x y v u Q I rx ry h
  obtain ⟨i, j, rfl, rfl, hz, q⟩ := h
  obtain ⟨t, rfl⟩ := rx
  obtain ⟨t', rfl⟩ := ry
  exact PySem.W.KBy.add_bytes hz (fun t' tk => ⟨.byt (i ++ j), H, I.tok _, ⟨_, rfl⟩, q⟩)

def PlainIxT (b : Expr) : Prop := ∀ o i, subscripted b false o i = operate [o, i] (getItem o i)
/-- s[i], 0 ≤ i < len -/
theorem pe_item_str (ha : PE X a ta) (hb : PE X b tb) (hs : PlainIxT b) :
    PE X (.Subscript a b pos) (tOp (fun x y H Q => ∃ z i c, x = .str z ∧ y = .int i ∧ 0 ≤ i ∧ i < 2 ^ 63 ∧ i < z.length ∧ z.cps[i.toNat]? = some c ∧ Q (.str ⟨#[c]⟩) H) ta tb) := by
  intro pins s σ H Q I h
  refine Subscript_ (binT ha hb I h fun v u s2 x y H2 I2 rx ry q => ?_)
  obtain ⟨z, i, c, rfl, rfl, h0, h63, h1, hc, q⟩ := q
  obtain ⟨t, rfl⟩ := rx
  obtain ⟨t', rfl⟩ := ry
  have e : seqIndex? i z.length = some i.toNat := PySem.StrLaws.seqIndex_nonneg h0 h1
  exact tail_any (typeIs_str s2 z t) slot_str_getitem.lookup (getItem_str (c := c) (by
    have e1 : decide (i < -(2 ^ 63 : Int)) = false := decide_eq_false (by omega)
    have e2 : decide (i ≥ 2 ^ 63) = false := decide_eq_false (by omega)
    rw [e1, e2] <;> rfl) (by rw [e]; exact hc) ⟨.str ⟨#[c]⟩, H2, I2.tok _, ⟨_, rfl⟩, q⟩) (hs _ _)
/-- b[i], 0 ≤ i < len -/
theorem pe_item_byt (ha : PE X a ta) (hb : PE X b tb) (hs : PlainIxT b) :
    PE X (.Subscript a b pos) (tOp (fun x y H Q => ∃ (z : List UInt8) (i : Int), x = .byt z.toArray ∧ y = .int i ∧ z.length ≤ sizeLine ∧ 0 ≤ i ∧ i < z.length ∧ Q (.int ((z.getD i.toNat 0).toNat : Nat)) H) ta tb) := by
  intro pins s σ H Q I h
  refine Subscript_ (binT ha hb I h fun v u s2 x y H2 I2 rx ry q => ?_)
  obtain ⟨z, i, rfl, rfl, hz, h0, h1, q⟩ := q
  obtain ⟨t, rfl⟩ := rx
  obtain ⟨t', rfl⟩ := ry
  have hl : sizeLine = 16777216 := sizeLine_eq
  exact tail_any (PySem.W.typeIs_bytes s2 z.toArray t) PySem.W.FB.slot_bytes_getitem.lookup (PySem.W.getItem_bytes (by omega) h0 h1 ⟨.int ((z.getD i.toNat 0).toNat : Nat), H2, I2.tok _, ⟨_, rfl⟩, q⟩) (hs _ _)

/-! ### scalar builtins, by CallR -/
theorem vals1 {x : V} {us : List Value} (r : Vals [x] us) : ∃ u, us = [u] ∧ RelV x u := by
  cases r with
  | cons r1 r2 => cases r2; exact ⟨_, rfl, r1⟩
theorem vals2 {x y : V} {us : List Value} (r : Vals [x, y] us) : ∃ u w', us = [u, w'] ∧ RelV x u ∧ RelV y w' := by
  cases r with
  | cons r1 r2 =>
    cases r2 with
    | cons r3 r4 => cases r4; exact ⟨_, _, rfl, r1, r3⟩
theorem call_abs : CallR X (.builtin "abs") (fun xs H Q => ∃ i, xs = [.int i] ∧ Q (.int (if i < 0 then -i else i)) H) := by
  intro pins s σ H xs us Q I r h
  obtain ⟨i, rfl, q⟩ := h
  obtain ⟨u, rfl, t, rfl⟩ := vals1 r
  exact call_abs_int fun u tk => ⟨.int (if i < 0 then -i else i), H, I.tok _, ⟨_, rfl⟩, q⟩
theorem call_max2 (hc : X.calm = true) : CallR X (.builtin "max") (fun xs H Q => ∃ i j, xs = [.int i, .int j] ∧ Q (.int (if j > i then j else i)) H) := by
  intro pins s σ H xs us Q I r h
  obtain ⟨i, j, rfl, q⟩ := h
  obtain ⟨u, w', rfl, ⟨t, rfl⟩, ⟨t', rfl⟩⟩ := vals2 r
  refine max_two_ints (I.ok.hd hc) fun h' tk k => ⟨_, H, I.kept k, ?_, q⟩
  by_cases hj : j > i
  · rw [if_pos hj, if_pos hj]; exact ⟨_, rfl⟩
  · rw [if_neg hj, if_neg hj]; exact ⟨_, rfl⟩
theorem call_min2 (hc : X.calm = true) : CallR X (.builtin "min") (fun xs H Q => ∃ i j, xs = [.int i, .int j] ∧ Q (.int (if j < i then j else i)) H) := by
  intro pins s σ H xs us Q I r h
  obtain ⟨i, j, rfl, q⟩ := h
  obtain ⟨u, w', rfl, ⟨t, rfl⟩, ⟨t', rfl⟩⟩ := vals2 r
  refine min_two_ints (I.ok.hd hc) fun h' tk k => ⟨_, H, I.kept k, ?_, q⟩
  by_cases hj : j < i
  · rw [if_pos hj, if_pos hj]; exact ⟨_, rfl⟩
  · rw [if_neg hj, if_neg hj]; exact ⟨_, rfl⟩
theorem call_int1 : CallR X (.type "int") (fun xs H Q => (∃ i, xs = [.int i] ∧ Q (.int i) H) ∨ ∃ k, xs = [.bl k] ∧ Q (.int (if k then 1 else 0)) H) := by
  intro pins s σ H xs us Q I r h
  rcases h with ⟨i, rfl, q⟩ | ⟨k, rfl, q⟩
  · obtain ⟨u, rfl, t, rfl⟩ := vals1 r
    exact call_int_int ⟨.int i, H, I, ⟨_, rfl⟩, q⟩
  · obtain ⟨u, rfl, r1⟩ := vals1 r
    cases r1
    exact call_int_bool ⟨.int (if k then 1 else 0), H, I.tok _, ⟨_, rfl⟩, q⟩
theorem call_bool1 : CallR X (.type "bool") (fun xs H Q => (∃ i, xs = [.int i] ∧ Q (.bl (i != 0)) H) ∨ ∃ k, xs = [.bl k] ∧ Q (.bl k) H) := by
  intro pins s σ H xs us Q I r h
  rcases h with ⟨i, rfl, q⟩ | ⟨k, rfl, q⟩
  · obtain ⟨u, rfl, t, rfl⟩ := vals1 r
    exact call_bool_int ⟨.bl (i != 0), H, I, rfl, q⟩
  · obtain ⟨u, rfl, r1⟩ := vals1 r
    cases r1
    exact call_bool_bool ⟨.bl k, H, I, rfl, q⟩
theorem call_str_int : CallR X (.type "str") (fun xs H Q => ∃ i, xs = [.int i] ∧ i.natAbs.log2 < 1920 ∧ Q (.str (toString i)) H) := by
  intro pins s σ H xs us Q I r h
  obtain ⟨i, rfl, hz, q⟩ := h
  obtain ⟨u, rfl, t, rfl⟩ := vals1 r
  exact PySem.P.str_of_int hz ⟨.str _, H, I.tok _, ⟨_, rfl⟩, q⟩
theorem call_ord : CallR X (.builtin "ord") (fun xs H Q => ∃ x, xs = [.str x] ∧ x.length = 1 ∧ Q (.int (x.cps.getD 0 0 : Nat)) H) := by
  intro pins s σ H xs us Q I r h
  obtain ⟨x, rfl, hz, q⟩ := h
  obtain ⟨u, rfl, t, rfl⟩ := vals1 r
  exact ord_of_one hz ⟨.int _, H, I.tok _, ⟨_, rfl⟩, q⟩
theorem call_chr : CallR X (.builtin "chr") (fun xs H Q => ∃ i, xs = [.int i] ∧ 0 ≤ i ∧ i ≤ 1114111 ∧ Q (.str ⟨#[i.toNat]⟩) H) := by
  intro pins s σ H xs us Q I r h
  obtain ⟨i, rfl, h0, h1, q⟩ := h
  obtain ⟨u, rfl, t, rfl⟩ := vals1 r
  exact chr_of_range h0 h1 ⟨.str _, H, I.tok _, ⟨_, rfl⟩, q⟩
/-- len of a str, a bytes, a list, a tuple -/
def LenV (K : PySem.W.Frag) (x : V) (H : Hp) (n : Nat) : Prop :=
  match x with
  | .str y => y.length ≤ sizeLine ∧ n = y.length
  | .byt y => y.size ≤ sizeLine ∧ n = y.size
  | .ref p => (∃ xs, SqL K H p xs ∧ n = xs.length) ∨ ∃ xs, SqT K H p xs ∧ n = xs.length
  | _ => False
theorem call_len : CallR X (.builtin "len") (fun xs H Q => ∃ x n, xs = [x] ∧ LenV X.K x H n ∧ Q (.int n) H) := by
  intro pins s σ H xs us Q I r h
  obtain ⟨x, n, rfl, e, q⟩ := h
  obtain ⟨u, rfl, rx⟩ := vals1 r
  have hl := line63
  have hs : sizeLine = 16777216 := sizeLine_eq
  cases x with
  | str y =>
    obtain ⟨t, rfl⟩ := rx
    obtain ⟨hy, e'⟩ : y.length ≤ sizeLine ∧ n = y.length := e
    subst e'
    exact len_str (by omega) ⟨.int _, H, I.tok _, ⟨_, rfl⟩, q⟩
  | byt y =>
    obtain ⟨t, rfl⟩ := rx
    obtain ⟨hy, e'⟩ : y.size ≤ sizeLine ∧ n = y.size := e
    subst e'
    exact PySem.W.len_bytes (by omega) ⟨.int _, H, I.tok _, ⟨_, rfl⟩, q⟩
  | ref p =>
    cases rx
    have e' : (∃ xs, SqL X.K H p xs ∧ n = xs.length) ∨ ∃ xs, SqT X.K H p xs ∧ n = xs.length := e
    rcases e' with ⟨xs, hx, e'⟩ | ⟨xs, hx, e'⟩
    · subst e'
      obtain ⟨its, r', pl, hz⟩ := I.list hx
      have hlen := r'.length
      exact Calls.call_len_list pl.isList (by simp only [List.size_toArray]; omega) ⟨.int xs.length, H, I.tok _, ⟨_, by simp only [List.size_toArray]; rw [hlen]⟩, q⟩
    · subst e'
      obtain ⟨its, r', pl, hz⟩ := I.tuple hx
      have hlen := r'.length
      exact len_tuple pl (by simp only [List.size_toArray]; omega) ⟨.int xs.length, H, I.tok _, ⟨_, by simp only [List.size_toArray]; rw [hlen]⟩, q⟩
  | _ => exact (show False from e).elim
/-- divmod: a new tuple -/
theorem call_divmod : CallR X (.builtin "divmod") (fun xs H Q => ∃ i j, xs = [.int i, .int j] ∧ CDiv i j ∧ ∀ p, H p = none → Q (.ref p) (upd H p (.tup [.int (i / j), .int (i % j)]))) := by
  intro pins s σ H xs us Q I r h
  obtain ⟨i, j, rfl, ⟨h1, h2⟩, q⟩ := h
  obtain ⟨u, w', rfl, ⟨t, rfl⟩, ⟨t', rfl⟩⟩ := vals2 r
  refine divmod_int (by omega) ?_ (.inl (PyProof.noPylong_small (by omega)))
  rw [Int.fdiv_eq_ediv_of_nonneg i (by omega), Int.fmod_eq_emod_of_nonneg i (by omega)]
  have hn : H s.heap.objs.size = none := I.hok.fresh (Nat.le_refl _)
  refine ⟨.ref s.heap.objs.size, _, ?_, rfl, q _ hn⟩
  refine I.laid (fun b o e => Heap.get?_push_of_some _ e) (Nat.le_refl _) ⟨by simp only [List.length_cons, List.length_nil]; rw [sizeLine_eq]; decide, [.int (i / j) s.toks, .int (i % j) (s.toks + 1)], .cons ⟨_, rfl⟩ (.cons ⟨_, rfl⟩ .nil), ?_⟩
  exact ⟨_, Heap.get?_push_size s.heap rfl, rfl, 0, rfl⟩
end
end L2

namespace L2
open PySem PySem.Spec PyProof.Rows

/-! ### an instance, its attributes a map -/
structure ObjM (h : Heap) (x dx C : Addr) (mA : Str → Option Value) : Prop where
  obj : h.get? x = some (PySem.W.instObj C dx)
  ns : h.Ns1 dx mA
  ne : dx ≠ x

theorem lookIn_ns {h : Heap} {dx : Addr} {mA : Str → Option Value} (n : h.Ns1 dx mA) : ∃ od, h.get? dx = some od ∧ ∀ name, PySem.W.lookIn name od = some (mA name) := by
  obtain ⟨o, es, ep, ho, hd, hk, _, hm⟩ := n
  refine ⟨o, ho, fun name => ?_⟩
  have e := hm name
  unfold nsFind findBy at e
  rw [← Array.find?_toList] at e
  unfold PySem.W.lookIn
  rw [hd]
  dsimp only
  split
  · rename_i y q
    rw [q] at e
    exact congrArg some e
  · rename_i q
    rw [q] at e
    have a : es.toList.any (·.refKey) = false := by
      rw [List.any_eq_false]
      intro y hy
      obtain ⟨z, t, hkey⟩ := hk y (Array.mem_toList_iff.mp hy)
      simp [DictEntry.refKey, hkey]
    have a' : ¬ es.toList.any (·.refKey) = true := by rw [a]; exact Bool.false_ne_true
    rw [if_neg a']
    exact congrArg some e

theorem ObjM.look {h : Heap} {x dx C : Addr} {mA : Str → Option Value} (I : ObjM h x dx C mA) : ∃ od, PySem.W.InstAt h x (PySem.W.instObj C dx) C (some od) ∧ ∀ name, PySem.W.lookIn name od = some (mA name) :=
  let ⟨od, ho, hl⟩ := lookIn_ns I.ns
  ⟨od, ⟨I.obj, rfl, rfl, ho⟩, hl⟩

section
variable {prog : Program} {w : World} {A : Around} {E : Value → Shared → Prop} {s : Shared} {K : PySem.W.Frag} {x dx C f : Addr} {mA : Str → Option Value} {name : Str} {v : Value}

theorem get_map {expr : Bool} {Q : Value → Shared → Prop} (X : K.In s.heap) (I : ObjM s.heap x dx C mA) (hg : PySem.W.plainGet K C name = true) (hh : PySem.W.hasDictIn K C = true)
    (ha : PySem.W.findIn K (.ref C) name = some none) (hv : mA name = some v) (hv' : PySem.W.handedIn v = true) (h : Q v { s with toks := s.toks + 1 }) :
    wpAny (model prog w) A (getAttr (.ref x) name expr) Q E s := by
  obtain ⟨od, J, hl⟩ := I.look
  exact PySem.W.get_value X J (PySem.W.plainGet_of hg).1 (PySem.W.findObj_own hh ha rfl (by rw [hl, hv])) hv' h

theorem get_const {expr : Bool} {a : Value} {Q : Value → Shared → Prop} (X : K.In s.heap) (I : ObjM s.heap x dx C mA) (hg : PySem.W.plainGet K C name = true) (hh : PySem.W.hasDictIn K C = true)
    (ha : PySem.W.findIn K (.ref C) name = some (some a)) (hn : PySem.W.specialIn K a "__get__" = some none) (hc : PySem.W.copiedNames.contains name = false) (hv : mA name = none) (hv' : PySem.W.handedIn a = true)
    (h : Q a { s with toks := s.toks + 1 }) : wpAny (model prog w) A (getAttr (.ref x) name expr) Q E s := by
  obtain ⟨od, J, hl⟩ := I.look
  exact PySem.W.get_value X J (PySem.W.plainGet_of hg).1 (PySem.W.findObj_cls hh ha hn hv' hc (by rw [hl, hv])) hv' h

theorem get_meth {pl : Sem Bool} {Q : Value × List Value → Shared → Prop} (X : K.In s.heap) (I : ObjM s.heap x dx C mA) (hg : PySem.W.plainGet K C name = true)
    (hf : PySem.W.findIn K (.ref C) name = some (some (.ref f))) (ht : PySem.W.isFn K (.ref f) = true) (hv : mA name = none) (h : Q (.ref f, [.ref x]) s) :
    wpAny (model prog w) A (getMethod (.ref x) name pl) Q E s := by
  obtain ⟨od, J, hl⟩ := I.look
  exact PySem.W.method_fn X J (PySem.W.plainGet_of hg).1 (PySem.W.plainGet_of hg).2 hf (beq_iff_eq.mp ht) (by show (PySem.W.lookIn name od).map (·.isSome) = some false; rw [hl, hv]; rfl) h

theorem set_map {ns : List Str} {Q : Unit → Shared → Prop} (X : K.In s.heap) (I : ObjM s.heap x dx C mA)
    (hs : PySem.W.findIn K (.ref C) "__setattr__" = some (some (.builtin "object.__setattr__"))) (hp : PySem.W.plainOver K C = true) (ht : PySem.W.takerIn K C name = some none) (hh : PySem.W.hasDictIn K C = true)
    (hw : PySem.Within mA ns) (hsz : ns.length ≤ sizeLine)
    (h : ∀ h', ObjM h' x dx C (fun y => if y = name then some v else mA y) → Heap.SameBut dx s.heap h' → Q () { s with heap := h', toks := s.toks + 2 }) :
    wpAny (model prog w) A (setAttr (.ref x) name v) Q E s := by
  obtain ⟨od, J, hl⟩ := I.look
  refine PySem.W.set_plain X J hs (PySem.W.osa_open (s := { s with toks := s.toks + 1 }) (r := none) X J hp ht fun b => ?_)
  obtain ⟨cd, hc, hd'⟩ := PySem.W.any_some hh
  have hx : s.heap.get? x = some ⟨.ref C, some dx, .plain, #[]⟩ := I.obj
  refine wpAny_bind (wpAny_pure (wpAny_bind (wpAny_bind (wpAny_loadPart hx (wpAny_bind (PySem.W.Looks.here (s := { s with toks := s.toks + 1 }) (PySem.W.looks_clsIn X hc) ?_))))))
  rw [hd']
  refine wpAny_pure (a := some dx) (wpAny_bind (wpAny_pure (wpAny_bind ?_)))
  refine wpAny_nsSet1 (s := { s with toks := s.toks + 1 }) I.ns fun h' hn2 hs2 => ?_
  obtain ⟨oD, esD, epD, hoD, hdD, hcD⟩ := hn2.count (PySem.Within.cons name v hw)
  refine wpAny_bind (wpAny_lookBehind hoD (by rw [hdD]; exact pastItsLine_dict (Nat.le_trans hcD (by rw [List.length_cons]; omega))) ?_)
  exact wpAny_pure (h _ ⟨(hs2.2 _ (Ne.symm I.ne)).trans I.obj, hn2, I.ne⟩ hs2)

/-- C(..): the dict at the heap's end, the instance behind it; then its __init__ -/
theorem make_map {R : Result → Shared → Prop} {vs : List Value} {kw : List (Str × Value)} (X : K.In s.heap) (hm : PySem.W.makesIn K C = true)
    (hi : PySem.W.findIn K (.ref C) "__init__" = some (some (.ref f))) (hf : PySem.W.typeIn K (.ref f) = some (.type "function"))
    (h : codeAny (model prog w) (A.under (.builtin "type.__call__" ⟨.ref C :: vs, kw⟩)) (.call (.ref f) ⟨.ref (s.heap.objs.size + 1) :: vs, kw⟩) (PySem.W.InitBack (s.heap.objs.size + 1) R)
      { s with heap := (s.heap.push PySem.W.emptyDict).push (PySem.W.instObj C s.heap.objs.size) }) :
    codeAny (model prog w) A (.call (.ref C) ⟨vs, kw⟩) R s := by
  obtain ⟨hh, g, d, t, os⟩ := s
  exact PySem.W.make_core (PySem.W.makes_of X hm) (PySem.W.looks_findIn X hi) (fun self => PySem.W.bind_fn X self hf) (.inl rfl) h
/-- C() where there is no __init__ but object's -/
theorem make_map0 {R : Result → Shared → Prop} (X : K.In s.heap) (hm : PySem.W.makesIn K C = true)
    (hi : PySem.W.findIn K (.ref C) "__init__" = some (some (.builtin "object.__init__")))
    (hb : ∀ self, PySem.W.Looks (model prog w) s.heap (bindSpecial (.builtin "object.__init__") self) (.builtin "object.__init__", [self]))
    (h : codeAny (model prog w) (A.under (.builtin "type.__call__" ⟨[.ref C], []⟩)) (.call (.builtin "object.__init__") ⟨[.ref (s.heap.objs.size + 1)], []⟩) (PySem.W.InitBack (s.heap.objs.size + 1) R)
      { s with heap := (s.heap.push PySem.W.emptyDict).push (PySem.W.instObj C s.heap.objs.size) }) :
    codeAny (model prog w) A (.call (.ref C) ⟨[], []⟩) R s := by
  obtain ⟨hh, g, d, t, os⟩ := s
  exact PySem.W.make_core (PySem.W.makes_of X hm) (PySem.W.looks_findIn X hi) hb (.inr ⟨rfl, rfl⟩) h
end

/-! ### the attributes as a list of pairs -/
def putF (f : Str) (v : V) : List (Str × V) → List (Str × V)
  | [] => [(f, v)]
  | (g, x) :: r => if g = f then (g, v) :: r else (g, x) :: putF f v r
theorem lookup_putF (f g : Str) (v : V) : ∀ fs : List (Str × V), (putF f v fs).lookup g = if g = f then some v else fs.lookup g
  | [] => by
    show List.lookup g [(f, v)] = _
    by_cases h : g = f
    · have hb : (g == f) = true := beq_iff_eq.mpr h
      simp only [List.lookup, hb, if_pos h]
    · have hb : (g == f) = false := beq_eq_false_iff_ne.mpr h
      simp only [List.lookup, hb, if_neg h]
  | (k, x) :: r => by
    have ih := lookup_putF f g v r
    rw [show putF f v ((k, x) :: r) = (if k = f then (k, v) :: r else (k, x) :: putF f v r) from rfl]
    by_cases hk : k = f
    · rw [if_pos hk]
      by_cases h : g = k
      · have hb : (g == k) = true := beq_iff_eq.mpr h
        simp only [List.lookup, hb, if_pos (h.trans hk)]
      · have hb : (g == k) = false := beq_eq_false_iff_ne.mpr h
        simp only [List.lookup, hb, if_neg (fun e : g = f => h (e.trans hk.symm))]
    · rw [if_neg hk]
      by_cases h : g = k
      · have hb : (g == k) = true := beq_iff_eq.mpr h
        simp only [List.lookup, hb, if_neg (fun e : g = f => hk (h.symm.trans e))]
      · have hb : (g == k) = false := beq_eq_false_iff_ne.mpr h
        simp only [List.lookup, hb]
        exact ih
theorem keys_putF (f : Str) (v : V) : ∀ fs : List (Str × V), f ∈ (putF f v fs).map (·.1) ∧ ∀ g, g ∈ fs.map (·.1) → g ∈ (putF f v fs).map (·.1)
  | [] => ⟨by simp [putF], fun g h => by simp at h⟩
  | (k, x) :: r => by
    obtain ⟨i1, i2⟩ := keys_putF f v r
    rw [show putF f v ((k, x) :: r) = (if k = f then (k, v) :: r else (k, x) :: putF f v r) from rfl]
    by_cases hk : k = f
    · rw [if_pos hk]
      subst hk
      exact ⟨by simp, fun g h => by simpa using h⟩
    · rw [if_neg hk]
      refine ⟨?_, fun g h => ?_⟩
      · rw [List.map_cons]
        exact List.mem_cons_of_mem _ i1
      · rw [List.map_cons] at h ⊢
        rcases List.mem_cons.mp h with e | e
        · exact List.mem_cons.mpr (.inl e)
        · exact List.mem_cons_of_mem _ (i2 g e)
theorem length_putF (f : Str) (v : V) : ∀ fs : List (Str × V), (putF f v fs).length ≤ fs.length + 1
  | [] => by simp [putF]
  | (k, x) :: r => by
    have ih := length_putF f v r
    rw [show putF f v ((k, x) :: r) = (if k = f then (k, v) :: r else (k, x) :: putF f v r) from rfl]
    by_cases hk : k = f
    · rw [if_pos hk, List.length_cons, List.length_cons]; omega
    · rw [if_neg hk, List.length_cons, List.length_cons]; omega

theorem RelO.some_of {v : V} {o : Option Value} (r : RelO (some v) o) : ∃ u, o = some u ∧ RelV v u := by
  cases o with
  | none => exact (show False from r).elim
  | some u => exact ⟨u, rfl, r⟩
theorem RelO.none_of {o : Option Value} (r : RelO none o) : o = none := by
  cases o with
  | none => rfl
  | some u => exact (show False from r).elim
theorem handed_of {v : V} {u : Value} (r : RelV v u) : PySem.W.handedIn u = true := by
  cases v with
  | non => cases (show u = Value.none from r); rfl
  | bl b => cases (show u = Value.bool b from r); rfl
  | int i => obtain ⟨t, e⟩ := (show ∃ t, u = Value.int i t from r); cases e; rfl
  | str x => obtain ⟨t, e⟩ := (show ∃ t, u = Value.str x t from r); cases e; rfl
  | byt b => obtain ⟨t, e⟩ := (show ∃ t, u = Value.bytes b t from r); cases e; rfl
  | flt b => obtain ⟨t, e⟩ := (show ∃ t, u = Value.float b t from r); cases e; rfl
  | ref a => cases (show u = Value.ref a from r); rfl
  | ty n => cases (show u = Value.type n from r); rfl

section
variable {P : Program} {w : World} {H H' : Hp} {h h' : Heap} {a C dx : Addr} {fs fs' : List (Str × V)} {K : PySem.W.Frag}
theorem ins_get (hok : HOk P w K H h) (e : H a = some (.ins C dx fs)) : ∃ mA, ObjM h a dx C mA ∧ (∀ f, RelO (fs.lookup f) (mA f)) ∧ PySem.Within mA (fs.map (·.1)) ∧ fs.length ≤ 1000 ∧ H dx = some (.own a) := by
  obtain ⟨d, z, ne, ob, mA, n, r, q⟩ := (show ObjOk P w K H h a (.ins C dx fs) from hok a _ e)
  exact ⟨mA, ⟨ob, n, ne⟩, r, q, z, d⟩
end

/-! ### what of the text a class must have -/
structure Cls (K : PySem.W.Frag) (C : Addr) : Prop where
  pg : PySem.W.plainGet K C Str.empty = true
  hd : PySem.W.hasDictIn K C = true
  po : PySem.W.plainOver K C = true
  sa : PySem.W.findIn K (.ref C) "__setattr__" = some (some (.builtin "object.__setattr__"))
theorem Cls.get {K : PySem.W.Frag} {C : Addr} (c : Cls K C) (f : Str) : PySem.W.plainGet K C f = true := c.pg
/-- no class of it has the name -/
def NoAttr (K : PySem.W.Frag) (C : Addr) (f : Str) : Prop := PySem.W.findIn K (.ref C) f = some none
theorem NoAttr.taker {K : PySem.W.Frag} {C : Addr} {f : Str} (n : NoAttr K C f) : PySem.W.takerIn K C f = some none := by
  unfold PySem.W.takerIn
  rw [show PySem.W.findIn K (.ref C) f = some none from n]
  rfl
/-- a constant of the class -/
structure Con (K : PySem.W.Frag) (C : Addr) (f : Str) (v : V) (u : Value) : Prop where
  at_ : PySem.W.findIn K (.ref C) f = some (some u)
  rel : RelV v u
  get : PySem.W.specialIn K u "__get__" = some none
  cp : PySem.W.copiedNames.contains f = false
/-- a method: a plain def of the class or of one above it -/
structure Meth (K : PySem.W.Frag) (C : Addr) (m : Str) (f : Addr) : Prop where
  at_ : PySem.W.findIn K (.ref C) m = some (some (.ref f))
  fn : PySem.W.isFn K (.ref f) = true
  kp : PySem.W.keepIn K (.ref f) = true

section
variable {X : Cx} {pins : List (Addr × Obj)} {σ : St} {H : Hp} {s : Shared} {a C dx : Addr} {fs : List (Str × V)} {f : Str} {v : V} {A : Around} {E : Value → Shared → Prop}

theorem getattr_ok {b : Bool} {Q : Value → Shared → Prop} (I : Inv X pins σ H s) (e : H a = some (.ins C dx fs)) (c : Cls X.K C) (n : NoAttr X.K C f) (l : fs.lookup f = some v)
    (h : ∀ u s', Inv X pins σ H s' → RelV v u → Q u s') : wpAny (model X.prog X.w) A (getAttr (.ref a) f b) Q E s := by
  obtain ⟨mA, O, r, _, _, _⟩ := ins_get I.hok e
  obtain ⟨u, hu, ru⟩ := RelO.some_of (v := v) (o := mA f) (by rw [← l]; exact r f)
  exact get_map I.kIn O (c.get f) c.hd n hu (handed_of ru) (h u _ (I.tok _) ru)

theorem getcon_ok {b : Bool} {u : Value} {Q : Value → Shared → Prop} (I : Inv X pins σ H s) (e : H a = some (.ins C dx fs)) (c : Cls X.K C) (k : Con X.K C f v u) (l : fs.lookup f = none)
    (h : ∀ s', Inv X pins σ H s' → Q u s') : wpAny (model X.prog X.w) A (getAttr (.ref a) f b) Q E s := by
  obtain ⟨mA, O, r, _, _, _⟩ := ins_get I.hok e
  have hn : mA f = none := RelO.none_of (by rw [← l]; exact r f)
  exact get_const I.kIn O (c.get f) c.hd k.at_ k.get k.cp hn (handed_of k.rel) (h _ (I.tok _))

theorem getmeth_ok {m : Str} {g : Addr} {pl : Sem Bool} {Q : Value × List Value → Shared → Prop} (I : Inv X pins σ H s) (e : H a = some (.ins C dx fs)) (c : Cls X.K C) (k : Meth X.K C m g) (l : fs.lookup m = none)
    (h : Q (.ref g, [.ref a]) s) : wpAny (model X.prog X.w) A (getMethod (.ref a) m pl) Q E s := by
  obtain ⟨mA, O, r, _, _, _⟩ := ins_get I.hok e
  have hn : mA m = none := RelO.none_of (by rw [← l]; exact r m)
  exact get_meth I.kIn O (c.get m) k.at_ k.fn hn h

theorem setattr_ok {y : V} {u : Value} {Q : Unit → Shared → Prop} (I : Inv X pins σ H s) (e : H a = some (.ins C dx fs)) (c : Cls X.K C) (n : NoAttr X.K C f) (hl : fs.length < 1000) (ry : RelV y u)
    (h : ∀ s', Inv X pins σ (upd H a (.ins C dx (putF f y fs))) s' → Q () s') : wpAny (model X.prog X.w) A (setAttr (.ref a) f u) Q E s := by
  obtain ⟨mA, O, r, wi, _, ho⟩ := ins_get I.hok e
  have hz : (fs.map (·.1)).length ≤ sizeLine := by rw [List.length_map, sizeLine_eq]; omega
  refine set_map I.kIn O c.sa c.po n.taker c.hd wi hz fun h' O' sb => h _ ?_
  have hd : ∃ o, h'.get? dx = some o := let ⟨o, _, _, e', _⟩ := O'.ns; ⟨o, e'⟩
  refine I.write (x := a) (e := dx) (by rw [e]; exact True.intro) (.inr ho) (fun b q hb z => (sb.2 b hb).trans z) hd ?_
  refine ⟨by rw [upd_ne O.ne]; exact ho, ?_, O.ne, O'.obj, _, O'.ns, fun g => ?_, fun g hg => ?_⟩
  · have := length_putF f y fs; omega
  · show RelO ((putF f y fs).lookup g) (if g = f then some u else mA g)
    rw [lookup_putF]
    by_cases q : g = f
    · rw [if_pos q, if_pos q]; exact ry
    · rw [if_neg q, if_neg q]; exact r g
  · by_cases q : g = f
    · rw [q]; exact (keys_putF f y fs).1
    · refine (keys_putF f y fs).2 g (wi g fun z => hg ?_)
      show (if g = f then some u else mA g) = none
      rw [if_neg q]; exact z

/-- a new instance, tracked, without attributes -/
theorem Inv.made (I : Inv X pins σ H s) : Inv X pins σ (upd (upd H s.heap.objs.size (.own (s.heap.objs.size + 1))) (s.heap.objs.size + 1) (.ins C s.heap.objs.size []))
    { s with heap := (s.heap.push PySem.W.emptyDict).push (PySem.W.instObj C s.heap.objs.size) } := by
  have e1 : (s.heap.push PySem.W.emptyDict).get? s.heap.objs.size = some PySem.W.emptyDict := Heap.get?_push_size s.heap rfl
  have e2 : ((s.heap.push PySem.W.emptyDict).push (PySem.W.instObj C s.heap.objs.size)).get? (s.heap.objs.size + 1) = some (PySem.W.instObj C s.heap.objs.size) := by
    have := Heap.get?_push_size (s.heap.push PySem.W.emptyDict) (o := PySem.W.instObj C s.heap.objs.size) rfl
    rwa [Heap.size_push] at this
  have e3 : (s.heap.push PySem.W.emptyDict).Ns s.heap.objs.size (fun _ => none) := ⟨PySem.W.emptyDict, #[], _, e1, rfl, (fun e he => absurd he (by simp)), fun _ => rfl⟩
  have I1 := I.laid (a := s.heap.objs.size) (o := .own (s.heap.objs.size + 1)) (h' := s.heap.push PySem.W.emptyDict) (t' := s.toks) (fun b u q => Heap.get?_push_of_some _ q) (Nat.le_refl _) ⟨_, e1⟩
  refine I1.laid (a := s.heap.objs.size + 1) (o := .ins C s.heap.objs.size []) (t' := s.toks) (fun b u q => Heap.get?_push_of_some _ q) (Nat.le_of_eq (Heap.size_push _ _)) ?_
  have ne : s.heap.objs.size ≠ s.heap.objs.size + 1 := Nat.ne_of_lt (Nat.lt_succ_self _)
  refine ⟨by rw [upd_ne ne, upd_same], Nat.zero_le _, ne, e2, fun _ => none, (Heap.Ns1.of_empty e3).at fun o q => Heap.get?_push_of_some _ q, fun _ => True.intro, fun y hy => absurd rfl hy⟩

/-- e.f where nothing but the object is asked: through attributeBase (super) and the last hold -/
theorem attr_of {prog : Program} {w : World} {env : Env} {e : Expr} {f : Str} {pos : Pos} {s : Shared} {Q : Value → Shared → Prop} (hb : attributeBase e f env (eval e env) = eval e env)
    (h : wpAny (model prog w) A (eval e env) (fun o s₁ => wpAny (model prog w) A (getAttr o f true) Q E s₁) E s) : wpAny (model prog w) A (eval (.Attribute e f pos) env) Q E s :=
  Attribute_any_ h (by rw [arm_eval_Attribute, hb])
end

/-! ### readings and rules -/
/-- e.f, an attribute of the instance -/
def tFld (K : PySem.W.Frag) (ta : TE) (f : Str) : TE := fun σ H Q => ta σ H fun x H1 => ∃ a C dx fs v, x = .ref a ∧ H1 a = some (.ins C dx fs) ∧ Cls K C ∧ NoAttr K C f ∧ fs.lookup f = some v ∧ Q v H1
/-- e.f, a constant of the class -/
def tCon (K : PySem.W.Frag) (ta : TE) (f : Str) : TE := fun σ H Q => ta σ H fun x H1 => ∃ a C dx fs v u, x = .ref a ∧ H1 a = some (.ins C dx fs) ∧ Cls K C ∧ Con K C f v u ∧ fs.lookup f = none ∧ Q v H1
/-- e.f = value -/
def sFld (K : PySem.W.Frag) (ta tv : TE) (f : Str) : TS := fun D σ H => tv σ H fun y H1 => ta σ H1 fun x H2 => ∃ a C dx fs, x = .ref a ∧ H2 a = some (.ins C dx fs) ∧ Cls K C ∧ NoAttr K C f ∧ fs.length < 1000 ∧
  D.nx σ (upd H2 a (.ins C dx (putF f y fs)))
/-- an augmented operator on two values -/
def InOp (X : Cx) (op : Operator) (rd : V → V → Hp → VK → Prop) : Prop :=
  ∀ (pins : List (Addr × Obj)) (s : Shared) (σ : St) (H : Hp) (x y : V) (u v : Value) (Q : VK), Inv X pins σ H s → RelV x u → RelV y v → rd x y H Q → wpAny (model X.prog X.w) X.A (inplaceOp op u v) (EP X pins σ Q) X.xe s
/-- e.f op= value -/
def sFldAug (K : PySem.W.Frag) (ta tv : TE) (rd : V → V → Hp → VK → Prop) (f : Str) : TS := fun D σ H => ta σ H fun x H1 => ∃ a C dx fs v, x = .ref a ∧ H1 a = some (.ins C dx fs) ∧ Cls K C ∧ NoAttr K C f ∧ fs.lookup f = some v ∧
  tv σ H1 fun y H2 => rd v y H2 fun z H3 => ∃ dx' fs', H3 a = some (.ins C dx' fs') ∧ fs'.length < 1000 ∧ D.nx σ (upd H3 a (.ins C dx' (putF f z fs')))

section
variable {X : Cx} {o e value : Expr} {f : Str} {pos pos' tpos : Pos} {ta tv : TE}
theorem pe_fld (he : PE X e ta) (hb : attributeBase e f X.env (eval e X.env) = eval e X.env) : PE X (.Attribute e f pos) (tFld X.K ta f) := by
  intro pins s σ H Q I h
  refine attr_of hb (thn (he pins s σ H _ I h) fun u s1 ⟨x, H1, I1, rx, a, C, dx, fs, v, ex, ea, c, n, l, q⟩ => ?_)
  subst ex
  obtain rfl : u = Value.ref a := rx
  exact getattr_ok I1 ea c n l fun u' s2 I2 ru => ⟨v, H1, I2, ru, q⟩
theorem pe_con (he : PE X e ta) (hb : attributeBase e f X.env (eval e X.env) = eval e X.env) : PE X (.Attribute e f pos) (tCon X.K ta f) := by
  intro pins s σ H Q I h
  refine attr_of hb (thn (he pins s σ H _ I h) fun u s1 ⟨x, H1, I1, rx, a, C, dx, fs, v, u0, ex, ea, c, k, l, q⟩ => ?_)
  subst ex
  obtain rfl : u = Value.ref a := rx
  exact getcon_ok I1 ea c k l fun s2 I2 => ⟨v, H1, I2, k.rel, q⟩
theorem ps_fld (ha : PE X o ta) (hv : PE X value tv) (hs : swapsWith value (some (.Attribute o f pos')) pos.line X.env = pure false) : PS X (.Assign [.Attribute o f pos'] value pos) (sFld X.K ta tv f) := by
  intro pins s σ H D I h
  refine plainObj_wpAny_Assign_Attribute (thn (hv pins s σ H _ I h) fun u s1 ⟨y, H1, I1, ry, q⟩ => thn (ha pins s1 σ H1 _ I1 q) fun ov s2 ⟨x, H2, I2, rx, a, C, dx, fs, ex, ea, c, n, l, q2⟩ => ?_) hs
  subst ex
  obtain rfl : ov = Value.ref a := rx
  exact setattr_ok I2 ea c n l ry fun s3 I3 => ⟨σ, _, I3, q2⟩
theorem ps_fldaug {op : Operator} {rd : V → V → Hp → VK → Prop} (ha : PE X o ta) (hv : PE X value tv) (hop : InOp X op rd) : PS X (.AugAssign (.Attribute o f tpos) op value pos) (sFldAug X.K ta tv rd f) := by
  intro pins s σ H D I h
  refine wpAny_AugAssign_AttributeAny (thn (ha pins s σ H _ I h) fun ov s1 ⟨x, H1, I1, rx, a, C, dx, fs, v, ex, ea, c, n, l, q⟩ => ?_)
  subst ex
  obtain rfl : ov = Value.ref a := rx
  refine getattr_ok I1 ea c n l fun u s2 I2 ru => thn (hv pins s2 σ H1 _ I2 q) fun w3 s3 ⟨y, H2, I3, ry, q3⟩ => thn (hop pins s3 σ H2 v y u w3 _ I3 ru ry q3) fun w4 s4 ⟨z, H3, I4, rz, dx', fs', ea', l', q4⟩ => ?_
  exact setattr_ok I4 ea' c n l' rz fun s5 I5 => ⟨σ, _, I5, q4⟩
def rAdd : V → V → Hp → VK → Prop := fun x y H Q => ∃ i j, x = .int i ∧ y = .int j ∧ Q (.int (i + j)) H
def rSub : V → V → Hp → VK → Prop := fun x y H Q => ∃ i j, x = .int i ∧ y = .int j ∧ Q (.int (i - j)) H
theorem in_add : InOp X .Add rAdd := by
  rintro pins s σ H x y u v Q I rx ry ⟨i, j, rfl, rfl, q⟩
  obtain ⟨t, rfl⟩ := (show ∃ t, u = Value.int i t from rx)
  obtain ⟨t', rfl⟩ := (show ∃ t', v = Value.int j t' from ry)
  exact PyProof.Rows.iadd_int ⟨.int (i + j), H, I.tok _, ⟨_, rfl⟩, q⟩
theorem in_sub : InOp X .Sub rSub := by
  rintro pins s σ H x y u v Q I rx ry ⟨i, j, rfl, rfl, q⟩
  obtain ⟨t, rfl⟩ := (show ∃ t, u = Value.int i t from rx)
  obtain ⟨t', rfl⟩ := (show ∃ t', v = Value.int j t' from ry)
  exact PyProof.Rows.isub_int ⟨.int (i - j), H, I.tok _, ⟨_, rfl⟩, q⟩

/-- what is between an instance and its method: the tree of a method call -/
theorem methcall_of {pl : Sem Bool} {m : Str} {apos : Pos} {args : List Expr} {pins : List (Addr × Obj)} {s : Shared} {σ : St} {H : Hp} {Q : Value → Shared → Prop} {te : TE} (he : PE X e te) (I : Inv X pins σ H s)
    (h : te σ H fun x H1 => ∃ a C dx fs g, x = .ref a ∧ H1 a = some (.ins C dx fs) ∧ Cls X.K C ∧ Meth X.K C m g ∧ fs.lookup m = none ∧
      ∀ s1, Inv X pins σ H1 s1 → wpAny (model X.prog X.w) X.A (callWith pos (.ref g) [.ref a] (backTo pos (starEach args X.env)) (backToKw pos (keywordEach [] X.env))) Q X.xe s1)
    (ht : eval (.Call (.Attribute e m apos) args [] pos) X.env = (do
      let ov ← eval e X.env
      standAt apos.atName
      let (f, first) ← holding [ov] (getMethod ov m pl)
      callWith pos f first (backTo pos (starEach args X.env)) (backToKw pos (keywordEach [] X.env)))) :
    wpAny (model X.prog X.w) X.A (eval (.Call (.Attribute e m apos) args [] pos) X.env) Q X.xe s := by
  refine PySem.W.methodCall_KW (pl := pl) (thn (he pins s σ H _ I h) fun u s1 ⟨x, H1, I1, rx, a, C, dx, fs, g, ex, ea, c, k, l, q⟩ => ?_) ht
  subst ex
  obtain rfl : u = Value.ref a := rx
  exact getmeth_ok I1 ea c k l (q s1 I1)
end

/-! ### isinstance -/
section
variable {X : Cx} {pins : List (Addr × Obj)} {σ : St} {H : Hp} {s : Shared} {A : Around} {E : Value → Shared → Prop} {Q : Value → Shared → Prop} {c : Value} {b : Bool}
/-- the type of a value, as the fragment's deciders take it; for an instance its class -/
inductive TyOf (K : PySem.W.Frag) (H : Hp) : V → Value → Prop where
  | non : TyOf K H .non (.type "NoneType")
  | bl (x : Bool) : TyOf K H (.bl x) (.type "bool")
  | int (i : Int) : TyOf K H (.int i) (.type "int")
  | str (x : Str) : TyOf K H (.str x) (.type "str")
  | flt (x : UInt64) : TyOf K H (.flt x) (.type "float")
  | lst {a : Addr} {xs : List V} (e : H a = some (.lst xs)) : TyOf K H (.ref a) (.type "list")
  | frz {a : Addr} {o : Obj} {xs : List V} (e : H a = some (.frz o (.lst xs))) : TyOf K H (.ref a) (.type "list")
  | tup {a : Addr} {xs : List V} (e : H a = some (.tup xs)) : TyOf K H (.ref a) (.type "tuple")
  | dK {a : Addr} {kvs : List (Key × V)} (e : H a = some (.dK kvs)) : TyOf K H (.ref a) (.type "dict")
  | dT {a : Addr} {kvs : List (List Key × V)} (e : H a = some (.dT kvs)) : TyOf K H (.ref a) (.type "dict")
  | ins {a C dx : Addr} {fs : List (Str × V)} (e : H a = some (.ins C dx fs)) (cl : Cls K C) (ha : PySem.W.findIn K (.ref C) "__class__" = some (some (.builtin "object.__class__")))
      (hn : PySem.W.specialIn K (.builtin "object.__class__") "__get__" = some (some (.builtin "getset_descriptor.__get__"))) (htk : PySem.W.takesIn K (.builtin "object.__class__") = some true)
      (hm : PySem.W.mroIn K C (.type "object") = some true) : TyOf K H (.ref a) (.ref C)
/-- isinstance(x, c) for one class c, a built-in or an own one: kitOne's answer -/
theorem isinst_ok {x : V} {u t : Value} (I : Inv X pins σ H s) (rx : RelV x u) (ty : TyOf X.K H x t) (e : PySem.W.kitOne X.K t c = some b) (h : ∀ tk, Q (.bool b) { s with toks := tk }) :
    wpAny (model X.prog X.w) A (call (.builtin "isinstance") [u, c]) Q E s := by
  cases ty with
  | non => cases (show u = Value.none from rx); exact PySem.W.kia_one PySem.W.kitx_none I.kIn True.intro e (fun z => nomatch z) h
  | bl y => cases (show u = Value.bool y from rx); exact PySem.W.kia_one PySem.W.kitx_bool I.kIn True.intro e (fun z => nomatch z) h
  | int i => obtain ⟨t, q⟩ := (show ∃ t, u = Value.int i t from rx); cases q; exact PySem.W.kia_one PySem.W.kitx_int I.kIn True.intro e (fun z => nomatch z) h
  | str y => obtain ⟨t, q⟩ := (show ∃ t, u = Value.str y t from rx); cases q; exact PySem.W.kia_one PySem.W.kitx_str I.kIn True.intro e (fun z => nomatch z) h
  | flt y => obtain ⟨t, q⟩ := (show ∃ t, u = Value.float y t from rx); cases q; exact PySem.W.kia_one PySem.W.kitx_float I.kIn True.intro e (fun z => nomatch z) h
  | @lst a xs ea =>
    cases (show u = Value.ref a from rx)
    obtain ⟨_, _, n, _, h1⟩ := (show ObjOk X.prog X.w X.K H s.heap a (.lst xs) from I.hok a _ ea)
    exact PySem.W.kia_one PySem.W.kitx_list I.kIn ⟨_, h1, rfl⟩ e (fun z => nomatch z) h
  | @frz a ob xs ea =>
    cases (show u = Value.ref a from rx)
    obtain ⟨_, _, _, n, _, h1⟩ := (show ObjOk X.prog X.w X.K H s.heap a (.frz ob (.lst xs)) from I.hok a _ ea)
    exact PySem.W.kia_one PySem.W.kitx_list I.kIn ⟨_, h1, rfl⟩ e (fun z => nomatch z) h
  | @tup a xs ea =>
    cases (show u = Value.ref a from rx)
    obtain ⟨_, _, _, p⟩ := (show ObjOk X.prog X.w X.K H s.heap a (.tup xs) from I.hok a _ ea)
    obtain ⟨o, h1, h2, _⟩ := p
    exact PySem.W.kia_one PySem.W.kitx_tuple I.kIn ⟨o, h1, h2⟩ e (fun z => nomatch z) h
  | @dK a kvs ea =>
    cases (show u = Value.ref a from rx)
    obtain ⟨_, _, vs, _, p⟩ := (show ObjOk X.prog X.w X.K H s.heap a (.dK kvs) from I.hok a _ ea)
    obtain ⟨o, es, ep, h1, h2, _⟩ := p
    exact PySem.W.kia_one PySem.W.kitx_dict I.kIn ⟨o, h1, h2.1⟩ e (fun z => nomatch z) h
  | @dT a kvs ea =>
    cases (show u = Value.ref a from rx)
    obtain ⟨_, _, xs, _, o, es, ep, h1, h2, _⟩ := (show ObjOk X.prog X.w X.K H s.heap a (.dT kvs) from I.hok a _ ea)
    exact PySem.W.kia_one PySem.W.kitx_dict I.kIn ⟨o, h1, h2.1⟩ e (fun z => nomatch z) h
  | @ins a C dx fs ea cl ha hn htk hm =>
    cases (show u = Value.ref a from rx)
    obtain ⟨mA, O, _⟩ := ins_get I.hok ea
    obtain ⟨od, J, _⟩ := O.look
    exact PySem.W.kia_one (PySem.W.kitx_own (cl.get _) cl.hd ha hn htk hm) I.kIn J e (fun z => nomatch z) h
end
end L2

namespace L2
open PySem PySem.Spec PyProof.Rows

/-! ### room -/
structure Room (k : Nat) (A : Around) : Prop where
  hd : A.handled = none
  dp : A.depth + 3 * k + 5 < recursionLimit
  un : A.units + 16 * k + 200 < cLine
theorem Room.mono {j k : Nat} {A : Around} (r : Room k A) (h : j ≤ k) : Room j A := ⟨r.hd, by have := r.dp; omega, by have := r.un; omega⟩
theorem Room.deeper {k : Nat} {A : Around} (r : Room (k + 1) A) (env : Env) : Room k (A.deeper env) :=
  ⟨r.hd, by have := r.dp; show A.depth + 1 + 3 * k + 5 < _; omega, by have := r.un; show A.units + 3 + 16 * k + 200 < _; omega⟩
theorem Room.in1 {k : Nat} {A : Around} (r : Room (k + 1) A) : Room k A.in1 :=
  ⟨r.hd, by have := r.dp; show A.depth + 3 * k + 5 < _; omega, by have := r.un; show A.units + 1 + 16 * k + 200 < _; omega⟩
theorem make_depth {A : Around} {C : Addr} {us : List Value} {kw : List (Str × Value)} : (A.under (.builtin "type.__call__" ⟨.ref C :: us, kw⟩)).depth = A.depth + 1 := by
  first | rfl | simp [Around.under, Code.weight, Code.isCreation, Code.isGuard, Code.isCaller, Code.frames, Code.isFrame, guardIds]
theorem make_units {A : Around} {C : Addr} {us : List Value} {kw : List (Str × Value)} : (A.under (.builtin "type.__call__" ⟨.ref C :: us, kw⟩)).units = A.units + 1 := by
  first | rfl | simp [Around.under, Code.cUnits, Code.frames, Code.isFrame]
theorem Room.make {k : Nat} {A : Around} (r : Room (k + 1) A) (C : Addr) (us : List Value) (kw : List (Str × Value)) : Room k (A.under (.builtin "type.__call__" ⟨.ref C :: us, kw⟩)) :=
  ⟨r.hd, by have := r.dp; rw [make_depth]; omega, by have := r.un; rw [make_units]; omega⟩
theorem Room.depth {k : Nat} {A : Around} (r : Room k A) : A.depth < recursionLimit := by have := r.dp; omega
theorem Room.units {k : Nat} {A : Around} (r : Room k A) : A.units + 64 < cLine := by have := r.un; omega
theorem Room.units0 {k : Nat} {A : Around} (r : Room k A) : A.units < cLine := by have := r.un; omega

/-! ### argument lists and displays -/
def tNil : TA := fun _ H Q => Q [] H
def tCons (ta : TE) (tr : TA) : TA := fun σ H Q => ta σ H fun x H1 => tr σ H1 fun xs H2 => Q (x :: xs) H2
section
variable {X : Cx} {e : Expr} {es : List Expr} {te : TE} {t : TA} {pos : Pos}
theorem pa_nil : PA X [] tNil := fun _ _ _ _ H Q I h => Calls.spliced_nil ⟨[], H, I, .nil, h⟩
theorem pa_cons (ha : PE X e te) (hr : PA X es t) (hs : starEach (e :: es) X.env = (false, eval e X.env) :: starEach es X.env := by rfl) : PA X (e :: es) (tCons te t) := by
  intro pos pins s σ H Q I h
  rw [hs]
  show wpAny _ _ (spliced ((false, eval e X.env) :: backTo pos (starEach es X.env))) _ _ s
  refine Calls.spliced_cons (thn (ha pins s σ H _ I h) fun u s1 ⟨x, H1, I1, r1, q1⟩ => ?_)
  exact thn (hr pos pins s1 σ H1 _ I1 q1) fun us s2 ⟨xs, H2, I2, r2, q2⟩ => ⟨x :: xs, H2, I2, .cons r1 r2, q2⟩

/-- a tuple, a list of written items -/
def tTup (t : TA) : TE := fun σ H Q => t σ H fun xs H1 => xs.length ≤ sizeLine ∧ ∀ p, H1 p = none → Q (.ref p) (upd H1 p (.tup xs))
def tLst (t : TA) : TE := fun σ H Q => t σ H fun xs H1 => xs.length ≤ sizeLine ∧ ∀ p, H1 p = none → Q (.ref p) (upd H1 p (.lst xs))
theorem pe_tup {x1} (h : PA X es t) : PE X (.Tuple es x1 pos) (tTup t) := by
  intro pins s σ H Q I hq
  refine wpAny_Tuple_spliced (thn (h pos pins s σ H _ I hq) fun us s1 ⟨xs, H1, I1, r, z, q⟩ => ⟨by rw [← r.length]; exact z, ?_⟩)
  have hf : H1 s1.heap.objs.size = none := I1.hok.fresh (Nat.le_refl _)
  refine ⟨.ref s1.heap.objs.size, upd H1 s1.heap.objs.size (.tup xs), I1.laid (t' := s1.toks) (fun b u e => Heap.get?_push_of_some _ e) (Nat.le_refl _) ?_, rfl, q _ hf⟩
  exact ⟨z, us, r, ⟨_, Heap.get?_push_size _ rfl, rfl, _, rfl⟩⟩
theorem pe_lst (h : PA X es t) : PE X (.List es pos) (tLst t) := by
  intro pins s σ H Q I hq
  refine wpAny_List_spliced (thn (h pos pins s σ H _ I hq) fun us s1 ⟨xs, H1, I1, r, z, q⟩ => ⟨by rw [← r.length]; exact z, ?_⟩)
  have hf : H1 s1.heap.objs.size = none := I1.hok.fresh (Nat.le_refl _)
  refine ⟨.ref s1.heap.objs.size, upd H1 s1.heap.objs.size (.lst xs), I1.laid (t' := s1.toks) (fun b u e => Heap.get?_push_of_some _ e) (Nat.le_refl _) ?_, rfl, q _ hf⟩
  exact ⟨z, us, 0, r, Heap.get?_push_size _ rfl⟩
end

/-! ### what a def promises -/
/-- a def's promise: the bound arguments in the parameters' order, the heap, the wanted end, the wanted exception -/
abbrev Sp := List V → Hp → VK → XK → Prop
/-- how an exception lies behind a call (file 08 gives it): the callers' frames, abstract heap and state ahead of the call, the wish, the exception, the state -/
abbrev CXT := List Env → Hp → Shared → XK → Value → Shared → Prop

/-- the state at a call -/
structure Env0 (P : Program) (w : World) (K : PySem.W.Frag) (mg : Str → Option Value) (base : Heap) (A : Around) (outer : List Env) (s : Shared) (H : Hp) : Prop where
  frames : A.frames = some outer
  mod : Mod K mg base
  bs : ∀ b o, base.get? b = some o → s.heap.get? b = some o ∧ H b = none
  bsz : base.objs.size ≤ s.heap.objs.size
  funs : s.heap.FunFrames base outer
  frf : ∀ b ∈ frs outer, H b = none
  hok : HOk P w K H s.heap
  bare : AllBare s.gens
/-- a call's end -/
def CE (outer : List Env) (P : Program) (w : World) (K : PySem.W.Frag) (H : Hp) (s : Shared) (Q : VK) (u : Value) (s' : Shared) : Prop :=
  ∃ v H', s'.os = s.os ∧ AllBare s'.gens ∧ Un (frs outer) [] H H' s.heap s'.heap ∧ HOk P w K H' s'.heap ∧ RelV v u ∧ Q v H'
def CR (CX : CXT) (outer : List Env) (P : Program) (w : World) (K : PySem.W.Frag) (H : Hp) (s : Shared) (Q : VK) (E : XK) (r : Result) (s' : Shared) : Prop :=
  match r with
  | .ok (.ret u) => CE outer P w K H s Q u s'
  | .ok _ => False
  | .error e => CX outer H s E e s'
structure FnOk (P : Program) (w : World) (K : PySem.W.Frag) (mg : Str → Option Value) (base : Heap) (CX : CXT) (k : Nat) (f : Addr) (fd : FuncData) (ps : List Str) (sp : Sp) : Prop where
  len : ∀ vs H Q E, sp vs H Q E → vs.length = ps.length
  run : ∀ (A : Around) (outer : List Env) (s : Shared) (H : Hp) (args : Args) (us : List Value) (vs : List V) (Q : VK) (E : XK), Room k A → Env0 P w K mg base A outer s H → BindsTo s fd args (ps.zip us) → Vals vs us → sp vs H Q E →
    codeAny (model P w) A (.call (.ref f) args) (CR CX outer P w K H s Q E) s
theorem FnOk.mono {P : Program} {w : World} {K : PySem.W.Frag} {mg : Str → Option Value} {base : Heap} {CX : CXT} {j k : Nat} {f : Addr} {fd : FuncData} {ps : List Str} {sp : Sp} (F : FnOk P w K mg base CX j f fd ps sp) (h : j ≤ k) :
    FnOk P w K mg base CX k f fd ps sp := ⟨F.len, fun A outer s H args us vs Q E hr => F.run A outer s H args us vs Q E (hr.mono h)⟩
/-- a weaker promise -/
theorem FnOk.imp {P : Program} {w : World} {K : PySem.W.Frag} {mg : Str → Option Value} {base : Heap} {CX : CXT} {k : Nat} {f : Addr} {fd : FuncData} {ps : List Str} {sp sp' : Sp} (F : FnOk P w K mg base CX k f fd ps sp)
    (h : ∀ vs H Q E, sp' vs H Q E → sp vs H Q E) : FnOk P w K mg base CX k f fd ps sp' :=
  ⟨fun vs H Q E q => F.len vs H Q E (h _ _ _ _ q), fun A outer s H args us vs Q E hr he hb hv hs => F.run A outer s H args us vs Q E hr he hb hv (h _ _ _ _ hs)⟩

theorem Env0.make {P : Program} {w : World} {K : PySem.W.Frag} {mg : Str → Option Value} {base : Heap} {A : Around} {outer : List Env} {s : Shared} {H : Hp} (e : Env0 P w K mg base A outer s H) (C : Addr) (us : List Value) (kw : List (Str × Value)) :
    Env0 P w K mg base (A.under (.builtin "type.__call__" ⟨.ref C :: us, kw⟩)) outer s H := ⟨by first | exact e.frames | (simpa [Around.under, Code.envs, Code.isFrame, pushEnvs] using e.frames), e.mod, e.bs, e.bsz, e.funs, e.frf, e.hok, e.bare⟩
theorem Env0.in1 {P : Program} {w : World} {K : PySem.W.Frag} {mg : Str → Option Value} {base : Heap} {A : Around} {outer : List Env} {s : Shared} {H : Hp} (e : Env0 P w K mg base A outer s H) :
    Env0 P w K mg base A.in1 outer s H := ⟨e.frames, e.mod, e.bs, e.bsz, e.funs, e.frf, e.hok, e.bare⟩

section
variable {X : Cx} {pins : List (Addr × Obj)} {σ : St} {H : Hp} {s s' : Shared}
/-- from a body: what a callee wants -/
theorem Inv.env0 (I : Inv X pins σ H s) : Env0 X.prog X.w X.K X.mg X.base X.A X.stack s H :=
  ⟨I.ok.frames, I.ok.mod, I.bs, Nat.le_trans I.ok.bsz I.sz, I.stack, I.stkFree, I.hok, I.bare⟩
/-- behind a call -/
theorem Inv.after {Q : VK} {u : Value} (I : Inv X pins σ H s) (h : CE X.stack X.prog X.w X.K H s Q u s') : EP X pins σ Q u s' := by
  obtain ⟨v, H', os, bare, un, hok, r, q⟩ := h
  obtain ⟨hh, g, d, t, os'⟩ := s'
  obtain rfl : os' = s.os := os
  exact ⟨v, H', I.call (h' := hh) (g' := g) (d' := d) (t' := t) (ch := []) un hok bare (fun b z => absurd z (by simp)), r, q⟩
end

/-! ### calls -/
/-- f(..): the written arguments, then the defaults dvs; E: what is wanted of an exception -/
def tCall (sp : Sp) (dvs : List V) (E : XK) (t : TA) : TE := fun σ H Q => t σ H fun vs H1 => sp (vs ++ dvs) H1 Q E
/-- o.m(..) of an instance of the class at C -/
def tMeth (C : Addr) (m : Str) (sp : Sp) (dvs : List V) (E : XK) (ta : TE) (t : TA) : TE := fun σ H Q => ta σ H fun x H1 => ∃ a dx fs, x = .ref a ∧ H1 a = some (.ins C dx fs) ∧ fs.lookup m = none ∧
  t σ H1 fun vs H2 => sp (x :: (vs ++ dvs)) H2 Q E
/-- C(..): a new instance and its dict, then __init__ -/
def tMake (C : Addr) (sp : Sp) (dvs : List V) (E : XK) (t : TA) : TE := fun σ H Q => t σ H fun vs H1 => ∀ x dx, H1 x = none → H1 dx = none → dx ≠ x →
  sp (.ref x :: (vs ++ dvs)) (upd (upd H1 dx (.own x)) x (.ins C dx [])) (fun v H2 => v = .non ∧ Q (.ref x) H2) E

/-- how the parameters are bound: us the positional arguments, kw the keywords' values by name, ds the defaults that fill up -/
def Binds (K : PySem.W.Frag) (fd : FuncData) (ps : List Str) (ds : List Value) : Prop :=
  ∀ (s : Shared) (us : List Value), K.In s.heap → (us ++ ds).length = ps.length → BindsTo s fd ⟨us, []⟩ (ps.zip (us ++ ds))
/-- every parameter is given -/
theorem Binds.all {K : PySem.W.Frag} {fd : FuncData} {ps : List Str} (h : ∀ us : List Value, us.length = ps.length → bindArgs fd ⟨us, []⟩ = pure (ps.zip us)) : Binds K fd ps [] := fun s us _ hl => by
  rw [List.append_nil] at hl ⊢
  exact .of_eq (h us hl)

/-- an exception of a callee reaches what this body wants of exceptions -/
def Passes (CX : CXT) (X : Cx) (E : XK) : Prop := ∀ (pins : List (Addr × Obj)) (σ : St) (H : Hp) (s : Shared) (e : Value) (s' : Shared), Inv X pins σ H s → CX X.stack H s E e s' → X.xe e s'

section
variable {X : Cx} {CX : CXT} {k : Nat} {f C : Addr} {fd : FuncData} {ps : List Str} {sp : Sp} {dvs : List V} {ds : List Value} {E : XK} {x m : Str} {p pos apos : Pos} {e o : Expr} {es : List Expr} {ta : TE} {t : TA}

/-- the callee runs -/
theorem run_fn {pins : List (Addr × Obj)} {σ : St} {H : Hp} {s : Shared} {Q : VK} {us : List Value} {vs : List V} (F : FnOk X.prog X.w X.K X.mg X.base CX k f fd ps sp) (hr : Room k X.A) (hb : Binds X.K fd ps ds) (hd : Vals dvs ds) (hx : Passes CX X E)
    (I : Inv X pins σ H s) (r : Vals vs us) (h : sp (vs ++ dvs) H Q E) : wpAny (model X.prog X.w) X.A (call (.ref f) us) (EP X pins σ Q) X.xe s := by
  have r2 : Vals (vs ++ dvs) (us ++ ds) := r.append hd
  have hl : (us ++ ds).length = ps.length := by rw [← r2.length]; exact F.len _ _ _ _ h
  refine wpAny_call (codeAny_mono (F.run X.A X.stack s H ⟨us, []⟩ (us ++ ds) (vs ++ dvs) Q E hr I.env0 (hb s us I.kIn hl) r2 h) fun r s' hq => ?_)
  cases r with
  | error e => exact hx pins σ H s e s' I hq
  | ok fl =>
    cases fl with
    | ret u => exact I.after hq
    | next => exact False.elim hq
    | brk => exact False.elim hq
    | cont => exact False.elim hq

theorem pe_call (F : FnOk X.prog X.w X.K X.mg X.base CX k f fd ps sp) (hr : Room k X.A) (hg : Gl X x) (hm : X.mg x = some (.ref f)) (hk : PySem.W.keepIn X.K (.ref f) = true) (hb : Binds X.K fd ps ds) (hd : Vals dvs ds) (hx : Passes CX X E)
    (ha : PA X (e :: es) t) (hdb : (x == ("__debug__" : Str)) = false := by decide) (he : starEach (e :: es) X.env = (false, eval e X.env) :: starEach es X.env := by rfl) (hpl : (backTo pos (starEach es X.env)).any (·.1) = false := by rfl) :
    PE X (.Call (.Name x p) (e :: es) [] pos) (tCall sp dvs E t) := by
  intro pins s σ H Q I h
  refine wpAny_Call_Name_kw (ld_glob I hg hm ?_ hdb)
  refine PySem.W.callWith_K (h₀ := X.base) I.ok.mod.kin hk (thn (ha pos pins s σ H _ I h) fun us s1 ⟨vs, H1, I1, r, q⟩ => ⟨I1.kIn, ?_⟩) he hpl
  exact run_fn F hr hb hd hx I1 r q
theorem pe_call0 (F : FnOk X.prog X.w X.K X.mg X.base CX k f fd ps sp) (hr : Room k X.A) (hg : Gl X x) (hm : X.mg x = some (.ref f)) (hk : PySem.W.keepIn X.K (.ref f) = true) (hb : Binds X.K fd ps ds) (hd : Vals dvs ds) (hx : Passes CX X E)
    (hdb : (x == ("__debug__" : Str)) = false := by decide) : PE X (.Call (.Name x p) [] [] pos) (tCall sp dvs E tNil) := by
  intro pins s σ H Q I h
  refine wpAny_Call_Name_kw (ld_glob I hg hm ?_ hdb)
  exact PySem.W.callWith_K0 I.kIn hk (run_fn (us := []) F hr hb hd hx I .nil h)

/-- o.m(e, ..) -/
theorem pe_meth {pl : Sem Bool} (he : PE X o ta) (c : Cls X.K C) (hm : Meth X.K C m f) (F : FnOk X.prog X.w X.K X.mg X.base CX k f fd ps sp) (hr : Room k X.A) (hb : Binds X.K fd ps ds) (hd : Vals dvs ds) (hx : Passes CX X E) (ha : PA X (e :: es) t)
    (hst : starEach (e :: es) X.env = (false, eval e X.env) :: starEach es X.env := by rfl) (hpl : (backTo pos (starEach es X.env)).any (·.1) = false := by rfl)
    (ht : eval (.Call (.Attribute o m apos) (e :: es) [] pos) X.env = (do
      let ov ← eval o X.env
      standAt apos.atName
      let (f, first) ← holding [ov] (getMethod ov m pl)
      callWith pos f first (backTo pos (starEach (e :: es) X.env)) (backToKw pos (keywordEach [] X.env))) := by rfl) :
    PE X (.Call (.Attribute o m apos) (e :: es) [] pos) (tMeth C m sp dvs E ta t) := by
  intro pins s σ H Q I h
  refine PySem.W.methodCall_KW (pl := pl) (thn (he pins s σ H _ I h) fun u s1 ⟨x, H1, I1, rx, a, dx, fs, ex, ea, l, q⟩ => ?_) ht
  subst ex
  obtain rfl : u = Value.ref a := rx
  refine getmeth_ok I1 ea c hm l ?_
  refine PySem.W.callWith_K (first := [.ref a]) (h₀ := X.base) I.ok.mod.kin hm.kp (thn (ha pos pins s1 σ H1 _ I1 q) fun us s2 ⟨vs, H2, I2, r, q2⟩ => ⟨I2.kIn, ?_⟩) hst hpl
  exact run_fn (us := .ref a :: us) (vs := .ref a :: vs) F hr hb hd hx I2 (.cons rfl r) q2
/-- o.m() -/
theorem pe_meth0 {pl : Sem Bool} (he : PE X o ta) (c : Cls X.K C) (hm : Meth X.K C m f) (F : FnOk X.prog X.w X.K X.mg X.base CX k f fd ps sp) (hr : Room k X.A) (hb : Binds X.K fd ps ds) (hd : Vals dvs ds) (hx : Passes CX X E)
    (ht : eval (.Call (.Attribute o m apos) [] [] pos) X.env = (do
      let ov ← eval o X.env
      standAt apos.atName
      let (f, first) ← holding [ov] (getMethod ov m pl)
      callWith pos f first (backTo pos (starEach [] X.env)) (backToKw pos (keywordEach [] X.env))) := by rfl) :
    PE X (.Call (.Attribute o m apos) [] [] pos) (tMeth C m sp dvs E ta tNil) := by
  intro pins s σ H Q I h
  refine PySem.W.methodCall_KW (pl := pl) (thn (he pins s σ H _ I h) fun u s1 ⟨x, H1, I1, rx, a, dx, fs, ex, ea, l, q⟩ => ?_) ht
  subst ex
  obtain rfl : u = Value.ref a := rx
  refine getmeth_ok I1 ea c hm l ?_
  exact PySem.W.callWith_K0 (first := [.ref a]) I1.kIn hm.kp (run_fn (us := [.ref a]) (vs := [.ref a]) F hr hb hd hx I1 (.cons rfl .nil) q)

/-- what a class must have to be made -/
structure Mk (K : PySem.W.Frag) (C f : Addr) : Prop where
  makes : PySem.W.makesIn K C = true
  init : PySem.W.findIn K (.ref C) "__init__" = some (some (.ref f))
  fn : PySem.W.isFn K (.ref f) = true
  kp : PySem.W.keepIn K (.ref C) = true

theorem run_make {pins : List (Addr × Obj)} {σ : St} {H : Hp} {s : Shared} {Q : VK} {us : List Value} {vs : List V} (M : Mk X.K C f) (F : FnOk X.prog X.w X.K X.mg X.base CX k f fd ps sp) (hr : Room (k + 1) X.A) (hb : Binds X.K fd ps ds) (hd : Vals dvs ds)
    (hx : Passes CX X E) (I : Inv X pins σ H s) (r : Vals vs us)
    (h : ∀ x dx, H x = none → H dx = none → dx ≠ x → sp (.ref x :: (vs ++ dvs)) (upd (upd H dx (.own x)) x (.ins C dx [])) (fun v H2 => v = .non ∧ Q (.ref x) H2) E) :
    wpAny (model X.prog X.w) X.A (call (.ref C) us) (EP X pins σ Q) X.xe s := by
  have hq := h (s.heap.objs.size + 1) s.heap.objs.size (I.hok.fresh (Nat.le_succ _)) (I.hok.fresh (Nat.le_refl _)) (Nat.ne_of_lt (Nat.lt_succ_self _))
  have I2 := Inv.made (C := C) I
  have r2 : Vals (V.ref (s.heap.objs.size + 1) :: (vs ++ dvs)) (Value.ref (s.heap.objs.size + 1) :: (us ++ ds)) := .cons rfl (r.append hd)
  have hl : (Value.ref (s.heap.objs.size + 1) :: us ++ ds).length = ps.length := by
    have e := r2.length
    rw [F.len _ _ _ _ hq] at e
    exact e.symm
  refine wpAny_call (make_map (f := f) I.kIn M.makes M.init (beq_iff_eq.mp M.fn) (codeAny_mono (F.run _ X.stack _ _ ⟨Value.ref (s.heap.objs.size + 1) :: us, []⟩ (Value.ref (s.heap.objs.size + 1) :: (us ++ ds)) _ _ E (hr.make C us [])
    (I2.env0.make C us []) (hb _ (Value.ref (s.heap.objs.size + 1) :: us) I2.kIn hl) r2 hq) fun r s' hq' => ?_))
  cases r with
  | error e => exact hx pins σ _ _ e s' I2 hq'
  | ok fl =>
    cases fl with
    | ret u =>
      obtain ⟨v, H', I3, rv, ev, q3⟩ := I2.after hq'
      subst ev
      exact ⟨rv, ⟨V.ref (s.heap.objs.size + 1), H', I3, rfl, q3⟩⟩
    | next => exact False.elim hq'
    | brk => exact False.elim hq'
    | cont => exact False.elim hq'
theorem pe_make (M : Mk X.K C f) (F : FnOk X.prog X.w X.K X.mg X.base CX k f fd ps sp) (hr : Room (k + 1) X.A) (hg : Gl X x) (hm : X.mg x = some (.ref C)) (hb : Binds X.K fd ps ds) (hd : Vals dvs ds) (hx : Passes CX X E)
    (ha : PA X (e :: es) t) (hdb : (x == ("__debug__" : Str)) = false := by decide) (he : starEach (e :: es) X.env = (false, eval e X.env) :: starEach es X.env := by rfl) (hpl : (backTo pos (starEach es X.env)).any (·.1) = false := by rfl) :
    PE X (.Call (.Name x p) (e :: es) [] pos) (tMake C sp dvs E t) := by
  intro pins s σ H Q I h
  refine wpAny_Call_Name_kw (ld_glob I hg hm ?_ hdb)
  refine PySem.W.callWith_K (h₀ := X.base) I.ok.mod.kin M.kp (thn (ha pos pins s σ H _ I h) fun us s1 ⟨vs, H1, I1, r, q⟩ => ⟨I1.kIn, ?_⟩) he hpl
  exact run_make M F hr hb hd hx I1 r q
theorem pe_make0 (M : Mk X.K C f) (F : FnOk X.prog X.w X.K X.mg X.base CX k f fd ps sp) (hr : Room (k + 1) X.A) (hg : Gl X x) (hm : X.mg x = some (.ref C)) (hb : Binds X.K fd ps ds) (hd : Vals dvs ds) (hx : Passes CX X E)
    (hdb : (x == ("__debug__" : Str)) = false := by decide) : PE X (.Call (.Name x p) [] [] pos) (tMake C sp dvs E tNil) := by
  intro pins s σ H Q I h
  refine wpAny_Call_Name_kw (ld_glob I hg hm ?_ hdb)
  exact PySem.W.callWith_K0 I.kIn M.kp (run_make (us := []) M F hr hb hd hx I .nil h)
end

/-! ### keywords -/
/-- the values of the keywords, from the left -/
def PK (X : Cx) (kws : List Keyword) (t : TA) : Prop :=
  ∀ (pos : Pos) (pins : List (Addr × Obj)) (s : Shared) (σ : St) (H : Hp) (Q : List V → Hp → Prop), Inv X pins σ H s → t σ H Q → wpAny (model X.prog X.w) X.A (evalAll ((backToKw pos (keywordEach kws X.env)).map (·.2))) (AP X pins σ Q) X.xe s
section
variable {X : Cx} {CX : CXT} {k : Nat} {f C : Addr} {fd : FuncData} {ps ks : List Str} {sp : Sp} {E : XK} {x m : Str} {p pos apos kpos : Pos} {e o : Expr} {es : List Expr} {kws : List Keyword} {te ta : TE} {t tk : TA} {nm : Option Str}
theorem pk_nil : PK X [] tNil := fun _ _ _ _ H Q I h => wpAny_evalAll_nil ⟨[], H, I, .nil, h⟩
theorem pk_cons (ha : PE X e te) (hr : PK X kws t) : PK X (⟨nm, e, kpos⟩ :: kws) (tCons te t) := by
  intro pos pins s σ H Q I h
  show wpAny _ _ (evalAll ((do let v ← eval e X.env; standAt pos; pure v) :: (backToKw pos (keywordEach kws X.env)).map (·.2))) _ _ s
  refine wpAny_evalAll_cons (wpAny_bind (thn (ha pins s σ H _ I h) fun u s1 ⟨x, H1, I1, r1, q1⟩ => wpAny_bind (wpAny_standAt (wpAny_pure ?_))))
  exact thn (hr pos pins s1 σ H1 _ I1 q1) fun us s2 ⟨xs, H2, I2, r2, q2⟩ => ⟨x :: xs, H2, I2, .cons r1 r2, q2⟩

/-- how a call with keywords binds: g puts the positional values us and the keywords' values ws (names ks) in the parameters' order, defaults among them -/
structure KBinds (K : PySem.W.Frag) (fd : FuncData) (ps ks : List Str) (g : List Value → List Value → List Value) (gV : List V → List V → List V) : Prop where
  to : ∀ (s : Shared) (us ws : List Value), K.In s.heap → (g us ws).length = ps.length → BindsTo s fd ⟨us, ks.zip ws⟩ (ps.zip (g us ws))
  rel : ∀ {vs : List V} {us : List Value} {zs : List V} {ws : List Value}, Vals vs us → Vals zs ws → Vals (gV vs zs) (g us ws)
def tCallK (sp : Sp) (gV : List V → List V → List V) (E : XK) (t tk : TA) : TE := fun σ H Q => t σ H fun vs H1 => tk σ H1 fun zs H2 => sp (gV vs zs) H2 Q E
variable {g : List Value → List Value → List Value} {gV : List V → List V → List V}
theorem run_fnk {pins : List (Addr × Obj)} {σ : St} {H : Hp} {s : Shared} {Q : VK} {us ws : List Value} {vs zs : List V} (F : FnOk X.prog X.w X.K X.mg X.base CX k f fd ps sp) (hr : Room k X.A) (hb : KBinds X.K fd ps ks g gV) (hx : Passes CX X E)
    (I : Inv X pins σ H s) (r : Vals vs us) (rz : Vals zs ws) (h : sp (gV vs zs) H Q E) : wpAny (model X.prog X.w) X.A (call (.ref f) us (ks.zip ws)) (EP X pins σ Q) X.xe s := by
  have r2 := hb.rel r rz
  have hl : (g us ws).length = ps.length := by rw [← r2.length]; exact F.len _ _ _ _ h
  refine wpAny_call (codeAny_mono (F.run X.A X.stack s H ⟨us, ks.zip ws⟩ (g us ws) (gV vs zs) Q E hr I.env0 (hb.to s us ws I.kIn hl) r2 h) fun r s' hq => ?_)
  cases r with
  | error e => exact hx pins σ H s e s' I hq
  | ok fl =>
    cases fl with
    | ret u => exact I.after hq
    | next => exact False.elim hq
    | brk => exact False.elim hq
    | cont => exact False.elim hq
/-- f(e, .., k = v, ..) -/
theorem pe_callK (F : FnOk X.prog X.w X.K X.mg X.base CX k f fd ps sp) (hr : Room k X.A) (hg : Gl X x) (hm : X.mg x = some (.ref f)) (hk : PySem.W.keepIn X.K (.ref f) = true) (hb : KBinds X.K fd ps ks g gV) (hx : Passes CX X E)
    (ha : PA X (e :: es) t) (hkw : PK X kws tk) (hall : (backToKw pos (keywordEach kws X.env)).all (·.1.isSome) = true := by rfl) (hks : (backToKw pos (keywordEach kws X.env)).filterMap (·.1) = ks := by rfl)
    (hdb : (x == ("__debug__" : Str)) = false := by decide) (he : starEach (e :: es) X.env = (false, eval e X.env) :: starEach es X.env := by rfl)
    (hpl : ((backTo pos (starEach (e :: es) X.env)).any (·.1) || (backToKw pos (keywordEach kws X.env)).any (·.1.isNone)) = false := by rfl) :
    PE X (.Call (.Name x p) (e :: es) kws pos) (tCallK sp gV E t tk) := by
  intro pins s σ H Q I h
  refine wpAny_Call_Name_kw (ld_glob I hg hm ?_ hdb)
  refine PySem.W.callWith_KW (h₀ := X.base) I.ok.mod.kin hk hall (thn (ha pos pins s σ H _ I h) fun us s1 ⟨vs, H1, I1, r, q⟩ => ?_) hpl he
  refine thn (hkw pos pins s1 σ H1 _ I1 q) fun ws s2 ⟨zs, H2, I2, rz, q2⟩ => ⟨I2.kIn, ?_⟩
  rw [hks]
  exact run_fnk F hr hb hx I2 r rz q2
end

/-! ### a def's body keeps its promise -/
/-- names: the parameters first -/
structure FnScope (N P : List Str) (sc : Scope) : Prop where
  kind : sc.kind = .function
  co : sc.isCoroutine = false
  gen : sc.isGenerator = false
  nd : N.Nodup
  pre : N.take P.length = P
  par : ∀ x ∈ P, sc.names.lookup x = some .local ∨ sc.names.lookup x = some .cell
  nofree : ∀ y ∈ sc.names, y.2 ≠ .free

theorem bindL_out {kindOf : Str → Option NameKind} {x : Str} : ∀ {binds : List (Str × Value)} {m : Str → Option Value}, (∀ v, (x, v) ∉ binds) → bindL kindOf binds m x = m x
  | [], _, _ => rfl
  | (n, v) :: r, m, h => by
    unfold bindL
    rw [bindL_out fun w hw => h w (List.mem_cons_of_mem _ hw)]
    split
    · have : x ≠ n := by rintro rfl; exact h v List.mem_cons_self
      simp [this]
    · rfl
theorem bindC_out {kindOf : Str → Option NameKind} {x : Str} : ∀ {binds : List (Str × Value)} {m : Str → Option Value}, (∀ v, (x, v) ∉ binds) → bindC kindOf binds m x = m x
  | [], _, _ => rfl
  | (n, v) :: r, m, h => by
    unfold bindC
    rw [bindC_out fun w hw => h w (List.mem_cons_of_mem _ hw)]
    split
    · rfl
    · have : x ≠ n := by rintro rfl; exact h v List.mem_cons_self
      simp [this]
theorem bindL_get {kindOf : Str → Option NameKind} {x : Str} {v : Value} : ∀ {P : List Str} {vs : List Value} {i : Nat} {m : Str → Option Value}, P.Nodup → P[i]? = some x → vs[i]? = some v → kindOf x = some .local →
    bindL kindOf (P.zip vs) m x = some v
  | [], _, _, _, _, h, _, _ => by simp at h
  | _ :: _, [], _, _, _, _, h, _ => by simp at h
  | p :: P, w :: vs, 0, m, nd, h1, h2, hk => by
    simp at h1 h2; subst h1; subst h2
    show bindL kindOf ((p, w) :: P.zip vs) m p = _
    unfold bindL
    rw [bindL_out fun v hv => (List.nodup_cons.mp nd).1 (List.of_mem_zip hv).1, if_pos hk]
    simp
  | p :: P, w :: vs, i + 1, m, nd, h1, h2, hk => by
    show bindL kindOf ((p, w) :: P.zip vs) m x = _
    unfold bindL
    exact bindL_get (i := i) (List.nodup_cons.mp nd).2 (by simpa using h1) (by simpa using h2) hk
theorem bindC_get {kindOf : Str → Option NameKind} {x : Str} {v : Value} : ∀ {P : List Str} {vs : List Value} {i : Nat} {m : Str → Option Value}, P.Nodup → P[i]? = some x → vs[i]? = some v → kindOf x ≠ some .local →
    bindC kindOf (P.zip vs) m x = some v
  | [], _, _, _, _, h, _, _ => by simp at h
  | _ :: _, [], _, _, _, _, h, _ => by simp at h
  | p :: P, w :: vs, 0, m, nd, h1, h2, hk => by
    simp at h1 h2; subst h1; subst h2
    show bindC kindOf ((p, w) :: P.zip vs) m p = _
    unfold bindC
    rw [bindC_out fun v hv => (List.nodup_cons.mp nd).1 (List.of_mem_zip hv).1, if_neg hk]
    simp
  | p :: P, w :: vs, i + 1, m, nd, h1, h2, hk => by
    show bindC kindOf ((p, w) :: P.zip vs) m x = _
    unfold bindC
    exact bindC_get (i := i) (List.nodup_cons.mp nd).2 (by simpa using h1) (by simpa using h2) hk

/-- the names' values at the entry -/
def start (N : List Str) (vs : List V) : St := vs.map some ++ List.replicate (N.length - vs.length) none

/-- the context of a def's body, at its entry; an exception leaves the frame, then lies as CX says -/
def cxOf (CX : CXT) (P : Program) (w : World) (K : PySem.W.Frag) (mg : Str → Option Value) (base : Heap) (N : List Str) (qual : Str) (scope : Scope) (f : Addr) (cd : Value) (A : Around) (outer : List Env) (s : Shared) (H : Hp) (E : XK) : Cx where
  prog := P
  w := w
  K := K
  mg := mg
  base := base
  A := A.deeper (envOfC qual scope s.heap.objs.size f cd)
  N := N
  s₀ := s
  H₀ := H
  env := envOfC qual scope s.heap.objs.size f cd
  outer := outer
  stack := envOfC qual scope s.heap.objs.size f cd :: outer
  ex := []
  calm := true
  fn := fun _ => true
  pn := []
  xe := fun e s' => wpAny (model P w) (A.deeper (envOfC qual scope s.heap.objs.size f cd)) (leaving (envOfC qual scope s.heap.objs.size f cd) e) (fun _ s'' => CX outer H s E e s'') (fun e' s'' => CX outer H s E e' s'') s'

theorem cell_has {sc : Scope} {n : Nat} {x : Str} (h : sc.names.lookup x = some .cell) : ∃ c, (cellsFrom n sc.names []).lookup x = some c := by
  have q := PySem.W.cellsFrom_some sc.names n [] (.inl h)
  exact Option.isSome_iff_exists.mp q

theorem inv_start {CX : CXT} {P : Program} {w : World} {K : PySem.W.Frag} {mg : Str → Option Value} {base : Heap} {N ps : List Str} {qual : Str} {scope : Scope} {f : Addr} {cd : Value} {A : Around} {outer : List Env} {s s1 : Shared} {H : Hp} {E : XK} {us : List Value} {vs : List V}
    (S : FnScope N ps scope) (hd : A.handled = none) (e0 : Env0 P w K mg base A outer s H) (hl : vs.length = ps.length) (r : Vals vs us)
    (x : InCallC s s.heap.objs.size (bindL (envOfC qual scope s.heap.objs.size f cd).kindOf (ps.zip us) fun _ => none) (cellsFrom (s.heap.objs.size + 1) scope.names []) (bindC (envOfC qual scope s.heap.objs.size f cd).kindOf (ps.zip us) fun _ => none) s1) :
    Inv (cxOf CX P w K mg base N qual scope f cd A outer s H E) [] (start N vs) H s1 := by
  have hpl : ps.length ≤ N.length := by have := congrArg List.length S.pre; rw [List.length_take] at this; omega
  obtain ⟨h1, tk, rfl, hk⟩ := x.done
  have noA : ∀ b : Addr, b ∉ (cxOf CX P w K mg base N qual scope f cd A outer s H E).ex := fun b z => absurd (show b ∈ ([] : List Addr) from z) (by simp)
  refine ⟨⟨e0.mod, S.kind, rfl, rfl, Nat.le_refl _, fun y z c h1 h2 => ?_, fun y hy => ?_, fun y c _ h => ?_, fun _ => hd, Around.frames_deeper e0.frames, .inr ⟨rfl, rfl⟩, fun b z => absurd z (noA b), e0.bs, e0.bsz, fun b _ _ => noA b, fun b z => absurd z (noA b), e0.funs, e0.frf⟩,
    rfl, e0.bare, Un.kept hk, ⟨_, x.toInCall.ns, fun i y v h1 h2 h3 => ?_⟩, fun y c h => ⟨_, x.cell y c h⟩, e0.hok.fresh (Nat.le_refl _), fun y c h => ?_, fun p hp => absurd (show p ∈ ([] : List (Addr × Obj)) from hp) (by simp), e0.hok.kept hk, ?_⟩
  · exact name_of_addr x.apart (PySem.mem_of_lookup h1) (PySem.mem_of_lookup h2)
  · have hy : scope.names.lookup y = some .cell ∨ scope.names.lookup y = some .free := hy
    rcases hy with hy | hy
    · exact cell_has hy
    · exact absurd rfl (S.nofree _ (PySem.mem_of_lookup hy))
  · exact Nat.le_of_lt (x.above y c (PySem.mem_of_lookup h))
  · have hi : i < vs.length := by
      unfold start at h2
      by_cases hi : i < vs.length
      · exact hi
      · rw [List.getElem?_append_right (by simpa using hi)] at h2
        rw [List.getElem?_replicate] at h2
        split at h2 <;> cases h2
    have ha : vs[i]? = some v := by
      unfold start at h2
      rw [List.getElem?_append_left (by simpa using hi), List.getElem?_map] at h2
      cases e : vs[i]? with
      | none => rw [e] at h2; cases h2
      | some a => rw [e] at h2; cases h2; rfl
    obtain ⟨u, hu, rv⟩ := r.get ha
    have hp : ps[i]? = some y := by
      rw [← S.pre, List.getElem?_take_of_lt (by omega)]; exact h1
    have ndP : ps.Nodup := by rw [← S.pre]; exact S.nd.sublist (List.take_sublist _ _)
    refine ⟨u, rv, ?_⟩
    rcases S.par y (List.mem_of_getElem? hp) with k | k
    · exact .inl ⟨k, bindL_get ndP hp hu k⟩
    · obtain ⟨c, e⟩ := cell_has (n := s.heap.objs.size + 1) k
      refine .inr ⟨.inl k, c, e, ?_⟩
      have q := x.cell y c e
      rw [bindC_get ndP hp hu (by show scope.names.lookup y ≠ _; rw [k]; decide)] at q
      exact q
  · exact e0.hok.fresh (Nat.le_of_lt (x.above y c (PySem.mem_of_lookup h)))
  · unfold start
    show _ = N.length
    rw [List.length_append, List.length_map, List.length_replicate]
    omega

/-- THE RULE: a def (or a method) of the text, by its body. The body's reading t is chosen for each entry; it is run at the parameters' values -/
theorem fn_of {CX : CXT} {P : Program} {w : World} {K : PySem.W.Frag} {mg : Str → Option Value} {base : Heap} {k : Nat} {f : Addr} {name qual : Str} {params : Arguments} {body : List Stmt} {scope : Scope} {dV kV doc pm cdv ct oc : Value} {an od : Option Addr}
    {osl : Array (Option Value)} {N ps : List Str} {sp : Sp} (lk : K.lookup f = some ⟨oc, od, .func (PySem.W.fnOf name qual params body scope dV kV doc pm an cdv ct), osl⟩) (hcd : PySem.W.codeIn K cdv qual = true) (S : FnScope N ps scope)
    (len : ∀ vs H Q E, sp vs H Q E → vs.length = ps.length)
    (hbody : ∀ (A : Around) (outer : List Env) (s : Shared) (H : Hp) (vs : List V) (Q : VK) (E : XK), Room k (A.deeper (envOfC qual scope s.heap.objs.size f cdv)) → sp vs H Q E →
      ∃ t, PSs (cxOf CX P w K mg base N qual scope f cdv A outer s H E) body t ∧ t { nx := fun _ H' => Q .non H', rt := Q } (start N vs) H) :
    FnOk P w K mg base CX (k + 1) f (PySem.W.fnOf name qual params body scope dV kV doc pm an cdv ct) ps sp := by
  refine ⟨len, fun A outer s H args us vs Q E hr e0 hb r hsp => ?_⟩
  have hl := len _ _ _ _ hsp
  have KX : K.In s.heap := e0.mod.kin.keeps fun b o e => (e0.bs b o e).1
  have lim : s.heap.NoLimit := e0.mod.nolimit.keeps fun b o e => (e0.bs b o e).1
  have hkind : ∀ y ∈ ps.zip us, scope.names.lookup y.1 = some .local ∨ (scope.names.lookup y.1 = some .cell ∧ ((cellsFrom (s.heap.objs.size + 1) scope.names []).lookup y.1).isSome = true) := fun ⟨n, v⟩ hy => by
    rcases S.par n (List.of_mem_zip hy).1 with q | q
    · exact .inl q
    · exact .inr ⟨q, PySem.W.cellsFrom_some _ _ _ (.inl q)⟩
  refine codeAny_call_function hr.depth (KX _ _ lk) rfl S.co S.gen rfl (PySem.W.codeRec_of KX hcd) (hb _ _ _ _ ?_)
  refine wpAny_newFunctionEnv_cells S.kind hkind fun env he s1 x => ?_
  subst he
  refine ⟨lim.keeps x.toInCall.keep, codeAny_func ?_⟩
  obtain ⟨t, ht, hq⟩ := hbody A outer s H vs Q E (hr.deeper _) hsp
  have I : Inv (cxOf CX P w K mg base N qual scope f cdv A outer s H E) [] (start N vs) H s1 := inv_start S hr.hd e0 hl r x
  refine wpAny_mono (ht [] s1 (start N vs) H _ I hq) (fun fl s' hs => ?_) fun e s' hs => hs
  have fin : ∀ {σ' : St} {H' : Hp} {v : V} {u : Value}, Inv (cxOf CX P w K mg base N qual scope f cdv A outer s H E) [] σ' H' s' → RelV v u → Q v H' → CE outer P w K H s Q u s' :=
    fun {σ' H' v u} J rv q => ⟨v, H', J.os, J.bare, J.base, J.hok, rv, q⟩
  cases fl with
  | ret u =>
    obtain ⟨v, σ', H', J, rv, q⟩ := hs
    exact fin J rv q
  | next =>
    obtain ⟨σ', H', J, q⟩ := hs
    exact fin (v := V.non) (u := Value.none) J rfl q
  | brk =>
    obtain ⟨_, _, _, q⟩ := hs
    exact False.elim q
  | cont =>
    obtain ⟨_, _, _, q⟩ := hs
    exact False.elim q
end L2

namespace L2
open PySem PySem.Spec PyProof.Rows
section
variable {X : Cx} {x : Str} {p pos : Pos} {e : Expr} {es : List Expr} {t : TA} {id T : String} {r : List V → Hp → VK → Prop}

def tCB (r : List V → Hp → VK → Prop) (t : TA) : TE := fun σ H Q => t σ H fun vs H1 => r vs H1 Q
/-- f(e, ..), f a built-in function -/
theorem pe_callB (hc : CallR X (.builtin id) r) (hg : Gl X x) (hm : X.mg x = none) (hv : bootBuiltins x = some (.builtin id)) (ha : PA X (e :: es) t) (hn : x ≠ "__name__" := by decide) (hdb : (x == ("__debug__" : Str)) = false := by decide)
    (he : starEach (e :: es) X.env = (false, eval e X.env) :: starEach es X.env := by rfl) (hpl : (backTo pos (starEach es X.env)).any (·.1) = false := by rfl) : PE X (.Call (.Name x p) (e :: es) [] pos) (tCB r t) := by
  intro pins s σ H Q I h
  refine wpAny_Call_Name_kw (ld_blt I hg hm hv ?_ hn hdb)
  exact PyProof.Rows.callWith_builtin1 (thn (ha pos pins s σ H _ I h) fun us s1 ⟨vs, H1, I1, r1, q1⟩ => hc pins s1 σ H1 vs us Q I1 r1 q1) he hpl
/-- T(e, ..), T a built-in type -/
theorem pe_callTy (hc : CallR X (.type T) r) (hg : Gl X x) (hm : X.mg x = none) (hv : bootBuiltins x = some (.type T)) (ha : PA X (e :: es) t) (hn : x ≠ "__name__" := by decide) (hdb : (x == ("__debug__" : Str)) = false := by decide)
    (he : starEach (e :: es) X.env = (false, eval e X.env) :: starEach es X.env := by rfl) (hpl : (backTo pos (starEach es X.env)).any (·.1) = false := by rfl) : PE X (.Call (.Name x p) (e :: es) [] pos) (tCB r t) := by
  intro pins s σ H Q I h
  refine wpAny_Call_Name_kw (ld_blt I hg hm hv ?_ hn hdb)
  exact PyProof.Rows.callWith_type1 (thn (ha pos pins s σ H _ I h) fun us s1 ⟨vs, H1, I1, r1, q1⟩ => hc pins s1 σ H1 vs us Q I1 r1 q1) he hpl
/-- T() -/
theorem pe_callTy0 (hc : CallR X (.type T) r) (hg : Gl X x) (hm : X.mg x = none) (hv : bootBuiltins x = some (.type T)) (hn : x ≠ "__name__" := by decide) (hdb : (x == ("__debug__" : Str)) = false := by decide) :
    PE X (.Call (.Name x p) [] [] pos) (tCB r tNil) := by
  intro pins s σ H Q I h
  refine wpAny_Call_Name_kw (ld_blt I hg hm hv ?_ hn hdb)
  exact PyProof.Rows.callWith_type0 (hc pins s σ H [] [] Q I .nil h)
end
end L2

namespace L2
open PySem PySem.Spec PyProof.Rows

/-! ### lists of pairs as tables -/
section
variable {κ : Type} [DecidableEq κ]
def valV (kvs : List (κ × V)) (k : κ) : Option V := (kvs.find? fun kv => decide (kv.1 = k)).map (·.2)
/-- in its place, or at the end -/
def putK (kvs : List (κ × V)) (k : κ) (v : V) : List (κ × V) :=
  if (kvs.any fun kv => decide (kv.1 = k)) = true then kvs.map (fun kv => if kv.1 = k then (kv.1, v) else kv) else kvs ++ [(k, v)]
def dropK (kvs : List (κ × V)) (k : κ) : List (κ × V) := kvs.filter fun kv => decide (kv.1 ≠ k)

theorem valV_nil {k : κ} : valV ([] : List (κ × V)) k = none := rfl
theorem valV_pos {p : κ × V} {r : List (κ × V)} {k : κ} (e : p.1 = k) : valV (p :: r) k = some p.2 := by simp [valV, List.find?_cons, e]
theorem valV_neg {p : κ × V} {r : List (κ × V)} {k : κ} (e : ¬ p.1 = k) : valV (p :: r) k = valV r k := by simp [valV, List.find?_cons, e]
theorem valV_any (k : κ) : ∀ kvs : List (κ × V), (kvs.any fun kv => decide (kv.1 = k)) = (valV kvs k).isSome
  | [] => rfl
  | p :: r => by
    rw [List.any_cons]
    by_cases e : p.1 = k
    · simp only [valV_pos e, decide_eq_true e, Bool.true_or, Option.isSome_some]
    · rw [valV_neg e, decide_eq_false e, Bool.false_or]; exact valV_any k r
theorem valV_map (k j : κ) (y : V) : ∀ kvs : List (κ × V), valV (kvs.map fun kv => if kv.1 = k then (kv.1, y) else kv) j = (valV kvs j).map fun x => if j = k then y else x
  | [] => rfl
  | p :: r => by
    have ih := valV_map k j y r
    rw [List.map_cons]
    by_cases h : p.1 = k
    · rw [if_pos h]
      by_cases e : p.1 = j
      · rw [valV_pos (p := (p.1, y)) e, valV_pos e, Option.map_some, if_pos (e.symm.trans h)]
      · rw [valV_neg (p := (p.1, y)) e, valV_neg e, ih]
    · rw [if_neg h]
      by_cases e : p.1 = j
      · rw [valV_pos (p := p) e, valV_pos e, Option.map_some, if_neg (fun z => h (e.trans z))]
      · rw [valV_neg (p := p) e, valV_neg e, ih]
theorem valV_snoc (k j : κ) (y : V) : ∀ kvs : List (κ × V), valV kvs k = none → valV (kvs ++ [(k, y)]) j = if j = k then some y else valV kvs j
  | [], _ => by
    by_cases e : k = j
    · rw [if_pos e.symm]; exact valV_pos (p := (k, y)) e
    · rw [if_neg (fun z => e z.symm)]; exact valV_neg (p := (k, y)) e
  | p :: r, hn => by
    rw [List.cons_append]
    have hk : ¬ p.1 = k := fun z => by rw [valV_pos z] at hn; cases hn
    rw [valV_neg hk] at hn
    have ih := valV_snoc k j y r hn
    by_cases e : p.1 = j
    · rw [valV_pos e, valV_pos e, if_neg (fun z => hk (e.trans z))]
    · rw [valV_neg e, valV_neg e, ih]
theorem valV_put (kvs : List (κ × V)) (k j : κ) (y : V) : valV (putK kvs k y) j = if j = k then some y else valV kvs j := by
  unfold putK
  by_cases a : (kvs.any fun kv => decide (kv.1 = k)) = true
  · rw [if_pos a, valV_map]
    rw [valV_any] at a
    by_cases e : j = k
    · obtain ⟨x, hx⟩ := Option.isSome_iff_exists.mp a
      rw [if_pos e, e, hx, Option.map_some, if_pos rfl]
    · rw [if_neg e]
      cases valV kvs j with
      | none => rfl
      | some x => rw [Option.map_some, if_neg e]
  · rw [if_neg a]
    refine valV_snoc k j y kvs ?_
    rw [valV_any] at a
    cases q : valV kvs k with
    | none => rfl
    | some x => rw [q] at a; exact (a rfl).elim
theorem length_putK (kvs : List (κ × V)) (k : κ) (v : V) : (putK kvs k v).length ≤ kvs.length + 1 := by
  unfold putK
  split
  · rw [List.length_map]; omega
  · rw [List.length_append, List.length_cons, List.length_nil]; omega
theorem putK_new {kvs : List (κ × V)} {k : κ} (v : V) (h : valV kvs k = none) : putK kvs k v = kvs ++ [(k, v)] := by
  unfold putK
  rw [valV_any, h]
  exact if_neg (by decide)

theorem RelO.isSome_eq {o : Option V} {u : Option Value} (r : RelO o u) : o.isSome = u.isSome := by
  cases o with
  | none => cases u with
    | none => rfl
    | some _ => exact (show False from r).elim
  | some _ => cases u with
    | none => exact (show False from r).elim
    | some _ => rfl
theorem RelO.getD {o : Option V} {u : Option Value} {d : V} {d' : Value} (r : RelO o u) (rd : RelV d d') : RelV (o.getD d) (u.getD d') := by
  cases o with
  | none => cases u with
    | none => exact rd
    | some _ => exact (show False from r).elim
  | some _ => cases u with
    | none => exact (show False from r).elim
    | some _ => exact r

/-- raw tables of the same keys -/
theorem KV.val {kvs : List (κ × V)} {vs : List (κ × Value)} (r : KV kvs vs) (k : κ) : RelO (valV kvs k) (valueAt vs k) := by
  unfold KV at r
  induction r with
  | nil => exact True.intro
  | @cons p q ps qs h t ih =>
    obtain ⟨h1, h2⟩ := h
    by_cases e : p.1 = k
    · have e' : q.1 = k := h1.symm.trans e
      have b : valueAt (q :: qs) k = some q.2 := by simp [valueAt, List.find?_cons, e']
      rw [valV_pos e, b]; exact h2
    · have e' : ¬ q.1 = k := fun z => e (h1.trans z)
      have b : valueAt (q :: qs) k = valueAt qs k := by simp [valueAt, List.find?_cons, e']
      rw [valV_neg e, b]; exact ih
theorem KV.any {kvs : List (κ × V)} {vs : List (κ × Value)} (r : KV kvs vs) (k : κ) : (kvs.any fun kv => decide (kv.1 = k)) = vs.any fun kv => decide (kv.1 = k) := by
  unfold KV at r
  induction r with
  | nil => rfl
  | cons h t ih => rw [List.any_cons, List.any_cons, ih, h.1]
theorem KV.repl {kvs : List (κ × V)} {vs : List (κ × Value)} (r : KV kvs vs) (k : κ) {y : V} {u : Value} (ry : RelV y u) :
    KV (kvs.map fun kv => if kv.1 = k then (kv.1, y) else kv) (vs.map fun kv => if kv.1 = k then (kv.1, u) else kv) := by
  unfold KV at r ⊢
  induction r with
  | nil => exact .nil
  | @cons p q ps qs h t ih =>
    rw [List.map_cons, List.map_cons]
    refine .cons ?_ ih
    obtain ⟨h1, h2⟩ := h
    by_cases e : p.1 = k
    · rw [if_pos e, if_pos (h1.symm.trans e)]; exact ⟨h1, ry⟩
    · rw [if_neg e, if_neg (fun z => e (h1.trans z))]; exact ⟨h1, h2⟩
theorem KV.put {kvs : List (κ × V)} {vs : List (κ × Value)} (r : KV kvs vs) (k : κ) {y : V} {u : Value} (ry : RelV y u) : KV (putK kvs k y) (stored vs k u) := by
  unfold putK stored
  rw [r.any k]
  by_cases e : (vs.any fun kv => decide (kv.1 = k)) = true
  · rw [if_pos e, if_pos e]; exact r.repl k ry
  · rw [if_neg e, if_neg e]; exact Paired.snoc r ⟨rfl, ry⟩
theorem KV.drop {kvs : List (κ × V)} {vs : List (κ × Value)} (r : KV kvs vs) (k : κ) : KV (dropK kvs k) (without vs k) := by
  unfold KV at r ⊢
  unfold dropK without
  induction r with
  | nil => exact .nil
  | @cons p q ps qs h t ih =>
    obtain ⟨h1, h2⟩ := h
    rw [List.filter_cons, List.filter_cons]
    by_cases e : p.1 = k
    · have a : ¬ decide (p.1 ≠ k) = true := by simp [e]
      have b : ¬ decide (q.1 ≠ k) = true := by simp [h1.symm.trans e]
      rw [if_neg a, if_neg b]; exact ih
    · have e' : ¬ q.1 = k := fun z => e (h1.trans z)
      have a : decide (p.1 ≠ k) = true := by simp [e]
      have b : decide (q.1 ≠ k) = true := by simp [e']
      rw [if_pos a, if_pos b]; exact .cons ⟨h1, h2⟩ ih
theorem KV.keys {kvs : List (κ × V)} {vs : List (κ × Value)} (r : KV kvs vs) : kvs.map (·.1) = vs.map (·.1) := by
  unfold KV at r
  induction r with
  | nil => rfl
  | cons h t ih => rw [List.map_cons, List.map_cons, ih, h.1]
theorem KV.length {kvs : List (κ × V)} {vs : List (κ × Value)} (r : KV kvs vs) : kvs.length = vs.length := Paired.length r
theorem dropK_le (kvs : List (κ × V)) (k : κ) : (dropK kvs k).length ≤ kvs.length := List.length_filter_le _ _
end


/-! ### a tracked dict, its keys ints and texts or tuples of these -/
theorem kV_is {P : Program} {w : World} {k : Key} {u : Value} (r : RelV (kV k) u) : (mixKind P w).is k u = true := by
  cases k with
  | inl i => obtain ⟨t, e⟩ := (show ∃ t, u = Value.int i t from r); subst e; exact mixKind_int P w i t
  | inr x => obtain ⟨t, e⟩ := (show ∃ t, u = Value.str x t from r); subst e; exact mixKind_str P w x t
theorem kV_inj {a b : Key} (e : kV a = kV b) : a = b := by
  cases a with
  | inl i => cases b with
    | inl j => have e' : V.int i = V.int j := e; injection e' with e'; rw [e']
    | inr y => exact nomatch (show V.int i = V.str y from e)
  | inr x => cases b with
    | inl j => exact nomatch (show V.str x = V.int j from e)
    | inr y => have e' : V.str x = V.str y := e; injection e' with e'; rw [e']
theorem kVs_inj : ∀ {a b : List Key}, a.map kV = b.map kV → a = b
  | [], [], _ => rfl
  | [], _ :: _, e => by simp at e
  | _ :: _, [], e => by simp at e
  | x :: xs, y :: ys, e => by
    rw [List.map_cons, List.map_cons] at e
    injection e with e1 e2
    rw [kV_inj e1, kVs_inj e2]
theorem items_are {P : Program} {w : World} : ∀ {ks : List Key} {us : List Value}, Vals (ks.map kV) us → ItemsAre (mixKind P w) ks us
  | [], _, r => by rw [List.map_nil] at r; cases r; exact .nil
  | k :: ks, _, r => by
    rw [List.map_cons] at r
    cases r with
    | cons h t => exact .cons (kV_is h) (items_are t)

/-- raw entries of a dict with tuple keys -/
abbrev KT (K : PySem.W.Frag) (H : Hp) : List (List Key × V) → List (List Key × Addr × Value) → Prop := Paired fun p q => p.1 = q.1 ∧ TupAt K H q.2.1 (p.1.map kV) ∧ RelV p.2 q.2.2
theorem KT.val {K : PySem.W.Frag} {H : Hp} {kvs : List (List Key × V)} {xs : List (List Key × Addr × Value)} (r : KT K H kvs xs) (k : List Key) : RelO (valV kvs k) ((atKey xs k).map (·.2)) := by
  induction r with
  | nil => exact True.intro
  | @cons p q ps qs h t ih =>
    obtain ⟨h1, _, h2⟩ := h
    by_cases e : p.1 = k
    · have e' : q.1 = k := h1.symm.trans e
      have b : atKey (q :: qs) k = some q.2 := by simp [atKey, List.find?_cons, e']
      rw [valV_pos e, b]; exact h2
    · have e' : ¬ q.1 = k := fun z => e (h1.trans z)
      have b : atKey (q :: qs) k = atKey qs k := by simp [atKey, List.find?_cons, e']
      rw [valV_neg e, b]; exact ih
theorem KT.repl {K : PySem.W.Frag} {H : Hp} {kvs : List (List Key × V)} {xs : List (List Key × Addr × Value)} (r : KT K H kvs xs) (k : List Key) {y : V} {u : Value} (ry : RelV y u) :
    KT K H (kvs.map fun kv => if kv.1 = k then (kv.1, y) else kv) (xs.map (putAt k u)) := by
  induction r with
  | nil => exact .nil
  | @cons p q ps qs h t ih =>
    rw [List.map_cons, List.map_cons]
    refine .cons ?_ ih
    obtain ⟨h1, h2, h3⟩ := h
    unfold putAt
    by_cases e : p.1 = k
    · rw [if_pos e, if_pos (h1.symm.trans e)]; exact ⟨h1, h2, ry⟩
    · rw [if_neg e, if_neg (fun z => e (h1.trans z))]; exact ⟨h1, h2, h3⟩
theorem KT.put {K : PySem.W.Frag} {H : Hp} {kvs : List (List Key × V)} {xs : List (List Key × Addr × Value)} (r : KT K H kvs xs) (k : List Key) {b : Addr} {y : V} {u : Value} (hb : TupAt K H b (k.map kV)) (ry : RelV y u) :
    KT K H (putK kvs k y) (storedH xs k b u) := by
  have e : (kvs.any fun kv => decide (kv.1 = k)) = (atKey xs k).isSome := by
    rw [valV_any, (r.val k).isSome_eq, Option.isSome_map]
  unfold putK storedH
  rw [e]
  by_cases q : (atKey xs k).isSome = true
  · rw [if_pos q, if_pos q]; exact r.repl k ry
  · rw [if_neg q, if_neg q]; exact Paired.snoc r ⟨rfl, hb, ry⟩
theorem KT.keeps {K : PySem.W.Frag} {H H' : Hp} {kvs : List (List Key × V)} {xs : List (List Key × Addr × Value)} (r : KT K H kvs xs) (ht : ∀ b ys, H b = some (.tup ys) → H' b = some (.tup ys)) : KT K H' kvs xs :=
  Paired.mapP r fun _ _ z => ⟨z.1, z.2.1.mono ht, z.2.2⟩

section
variable {P : Program} {w : World} {H : Hp} {h : Heap} {a : Addr} {K : PySem.W.Frag}
theorem rd_of {u : HO} (ok : HOk P w K H h) (e : Rd H a u) : ObjOk P w K H h a u := e.ok ok
theorem dk_rd {kvs : List (Key × V)} (ok : HOk P w K H h) (e : Rd H a (.dK kvs)) : kvs.length ≤ sizeLine ∧ (a == sysModules) = false ∧ ∃ vs, KV kvs vs ∧ h.DictOf (mixKind P w) a vs :=
  show ObjOk P w K H h a (.dK kvs) from rd_of ok e
theorem dk_of {kvs : List (Key × V)} (ok : HOk P w K H h) (e : H a = some (.dK kvs)) : kvs.length ≤ sizeLine ∧ (a == sysModules) = false ∧ ∃ vs, KV kvs vs ∧ h.DictOf (mixKind P w) a vs := dk_rd ok (.inl e)
/-- a tracked tuple of ints and texts is a key -/
theorem key_of {ks : List Key} (kin : K.In h) (ok : HOk P w K H h) (e : TupAt K H a (ks.map kV)) : (tupleKind (mixKind P w)).is h ks a := by
  rcases e with e | ⟨o, its, n, hk, hc, hd, _, r⟩
  · obtain ⟨_, its, r, o, h1, h2, n, h3⟩ := (show ObjOk P w K H h a (.tup (ks.map kV)) from ok a _ e)
    exact ⟨o, its.toArray, n, h1, h2, h3, by simpa using items_are r⟩
  · exact ⟨o, its, n, kin _ _ hk, hc, hd, by simpa using items_are r⟩
theorem dt_rd {kvs : List (List Key × V)} (kin : K.In h) (ok : HOk P w K H h) (e : Rd H a (.dT kvs)) : kvs.length ≤ sizeLine ∧ (a == sysModules) = false ∧
    ∃ xs, KT K H kvs xs ∧ h.DictOfH (tupleKind (mixKind P w)) a xs := by
  obtain ⟨z, y, xs, r, o, es, ep, h1, h2, h3, h4, h5⟩ := (show ObjOk P w K H h a (.dT kvs) from rd_of ok e)
  refine ⟨z, y, xs, r, o, es, ep, h1, h2, h3, h4, fun x hx => ?_, h5⟩
  have all : ∀ {l : List (List Key × V)} {m : List (List Key × Addr × Value)}, KT K H l m → ∀ x ∈ m, (tupleKind (mixKind P w)).is h x.1 x.2.1 := by
    intro l m q
    induction q with
    | nil => intro x hx; exact nomatch hx
    | @cons p q ps qs hq t ih =>
      intro x hx
      rcases List.mem_cons.mp hx with e | hx
      · subst e
        exact key_of kin ok (by rw [← hq.1]; exact hq.2.1)
      · exact ih x hx
  exact all r x hx
theorem dt_of {kvs : List (List Key × V)} (kin : K.In h) (ok : HOk P w K H h) (e : H a = some (.dT kvs)) : kvs.length ≤ sizeLine ∧ (a == sysModules) = false ∧
    ∃ xs, KT K H kvs xs ∧ h.DictOfH (tupleKind (mixKind P w)) a xs := dt_rd kin ok (.inl e)
end

/-- what the dict at a holds at the key y -/
def DGet (K : PySem.W.Frag) (H : Hp) (a : Addr) (y : V) (r : Option V) : Prop :=
  (∃ kvs k, Rd H a (.dK kvs) ∧ y = kV k ∧ r = valV kvs k) ∨ ∃ kvs k b, Rd H a (.dT kvs) ∧ y = .ref b ∧ TupAt K H b (k.map kV) ∧ r = valV kvs k
/-- the heap behind a[y] = v -/
def DPut (K : PySem.W.Frag) (H : Hp) (a : Addr) (y v : V) (H' : Hp) : Prop :=
  (∃ kvs k, H a = some (.dK kvs) ∧ y = kV k ∧ kvs.length < sizeLine ∧ H' = upd H a (.dK (putK kvs k v))) ∨
  ∃ kvs k b, H a = some (.dT kvs) ∧ y = .ref b ∧ TupAt K H b (k.map kV) ∧ kvs.length < sizeLine ∧ H' = upd H a (.dT (putK kvs k v))
theorem DGet.k {K : PySem.W.Frag} {H : Hp} {a : Addr} {kvs : List (Key × V)} {k : Key} (e : H a = some (.dK kvs)) : DGet K H a (kV k) (valV kvs k) := .inl ⟨kvs, k, .inl e, rfl, rfl⟩
theorem DGet.t {K : PySem.W.Frag} {H : Hp} {a b : Addr} {kvs : List (List Key × V)} {k : List Key} (e : H a = some (.dT kvs)) (eb : TupAt K H b (k.map kV)) : DGet K H a (.ref b) (valV kvs k) := .inr ⟨kvs, k, b, .inl e, rfl, eb, rfl⟩
theorem DPut.k {K : PySem.W.Frag} {H : Hp} {a : Addr} {kvs : List (Key × V)} {k : Key} {v : V} (e : H a = some (.dK kvs)) (hl : kvs.length < sizeLine) : DPut K H a (kV k) v (upd H a (.dK (putK kvs k v))) := .inl ⟨kvs, k, e, rfl, hl, rfl⟩
theorem DPut.t {K : PySem.W.Frag} {H : Hp} {a b : Addr} {kvs : List (List Key × V)} {k : List Key} {v : V} (e : H a = some (.dT kvs)) (eb : TupAt K H b (k.map kV)) (hl : kvs.length < sizeLine) :
    DPut K H a (.ref b) v (upd H a (.dT (putK kvs k v))) := .inr ⟨kvs, k, b, e, rfl, eb, hl, rfl⟩


section
variable {X : Cx} {pins : List (Addr × Obj)} {σ : St} {H : Hp} {s : Shared} {a : Addr} {y v : V} {u r : Value} {o : Option V} {A : Around} {E : Value → Shared → Prop}

theorem Inv.big (I : Inv X pins σ H s) : sysModules < s.heap.objs.size := by
  have h : mainGlobals < s.heap.objs.size := (I.mod.glob.keeps I.bk).lt
  exact Nat.lt_trans (by decide) h

/-- d[y], there -/
theorem d_getItem {Q : Value → Shared → Prop} (hu : A.units + 1 < cLine) (I : Inv X pins σ H s) (g : DGet X.K H a y (some v)) (ry : RelV y u) (h : ∀ w' s', Inv X pins σ H s' → RelV v w' → Q w' s') :
    wpAny (model X.prog X.w) A (getItem (.ref a) u) Q E s := by
  rcases g with ⟨kvs, k, e, ey, l⟩ | ⟨kvs, k, b, e, ey, eb, l⟩
  · subst ey
    obtain ⟨z, hd, vs, rel, dd⟩ := dk_rd I.hok e
    obtain ⟨w', hw, rw'⟩ := RelO.some_of (v := v) (o := valueAt vs k) (by rw [l]; exact rel.val k)
    exact wpAny_getItem_of (kV_is ry) dd.mapOf hw (h w' _ (I.tok _) rw')
  · subst ey
    cases (show u = Value.ref b from ry)
    obtain ⟨z, hd, xs, rel, dd⟩ := dt_rd I.kIn I.hok e
    obtain ⟨w', hw, rw'⟩ := RelO.some_of (v := v) (o := (atKey xs k).map (·.2)) (by rw [l]; exact rel.val k)
    obtain ⟨p, hp, hp2⟩ := Option.map_eq_some_iff.mp hw
    refine wpAny_getItem_heap (tupleKind_room_in1 hu) (key_of I.kIn I.hok eb) dd hp ?_
    rw [hp2]
    exact h w' _ (I.tok _) rw'
/-- y in d -/
theorem d_in {Q : Value → Shared → Prop} (hu : A.units + 1 < cLine) (I : Inv X pins σ H s) (g : DGet X.K H a y o) (ry : RelV y u) (h : ∀ s', Inv X pins σ H s' → Q (.bool o.isSome) s') :
    wpAny (model X.prog X.w) A (compareOp .In u (.ref a)) Q E s := by
  rcases g with ⟨kvs, k, e, ey, l⟩ | ⟨kvs, k, b, e, ey, eb, l⟩
  · subst ey
    obtain ⟨z, hd, vs, rel, dd⟩ := dk_rd I.hok e
    refine wpAny_in_of (kV_is ry) hd dd.mapOf ?_
    rw [← (rel.val k).isSome_eq, ← l]
    exact h _ (I.tok _)
  · subst ey
    cases (show u = Value.ref b from ry)
    obtain ⟨z, hd, xs, rel, dd⟩ := dt_rd I.kIn I.hok e
    refine wpAny_in_heap (tupleKind_room_in1 hu) (key_of I.kIn I.hok eb) hd dd ?_
    have q := (rel.val k).isSome_eq
    rw [Option.isSome_map] at q
    rw [← q, ← l]
    exact h _ (I.tok _)
theorem d_notIn {Q : Value → Shared → Prop} (hu : A.units + 1 < cLine) (I : Inv X pins σ H s) (g : DGet X.K H a y o) (ry : RelV y u) (h : ∀ s', Inv X pins σ H s' → Q (.bool (!o.isSome)) s') :
    wpAny (model X.prog X.w) A (compareOp .NotIn u (.ref a)) Q E s := by
  rcases g with ⟨kvs, k, e, ey, l⟩ | ⟨kvs, k, b, e, ey, eb, l⟩
  · subst ey
    obtain ⟨z, hd, vs, rel, dd⟩ := dk_rd I.hok e
    refine wpAny_notIn_of (kV_is ry) hd dd.mapOf ?_
    rw [← (rel.val k).isSome_eq, ← l]
    exact h _ (I.tok _)
  · subst ey
    cases (show u = Value.ref b from ry)
    obtain ⟨z, hd, xs, rel, dd⟩ := dt_rd I.kIn I.hok e
    refine wpAny_notIn_heap (tupleKind_room_in1 hu) (key_of I.kIn I.hok eb) hd dd ?_
    have q := (rel.val k).isSome_eq
    rw [Option.isSome_map] at q
    rw [← q, ← l]
    exact h _ (I.tok _)
/-- a dict's object is replaced -/
theorem d_write {h' : Heap} {t' : Nat} {ob : HO} (I : Inv X pins σ H s) (mu : Mut (H a)) (hs : Heap.SameBut a s.heap h') (he : ∃ q, h'.get? a = some q) (new : ObjOk X.prog X.w X.K (upd H a ob) h' a ob) :
    Inv X pins σ (upd H a ob) { s with heap := h', toks := t' } :=
  I.write (x := a) (e := a) mu (.inl rfl) (fun b q hb z => (hs.2 b hb).trans z) he new
theorem dk_new {P : Program} {w : World} {K : PySem.W.Frag} {H' : Hp} {h' : Heap} {kvs : List (Key × V)} {vs : List (Key × Value)} (z : kvs.length ≤ sizeLine) (hd : (a == sysModules) = false) (rel : KV kvs vs) (dd : h'.DictOf (mixKind P w) a vs) :
    ObjOk P w K H' h' a (.dK kvs) := ⟨z, hd, vs, rel, dd⟩
/-- d[y] = v -/
theorem d_setItem {H' : Hp} {Q : Unit → Shared → Prop} (hu : A.units + 1 < cLine) (I : Inv X pins σ H s) (g : DPut X.K H a y v H') (ry : RelV y u) (rv : RelV v r) (h : ∀ s', Inv X pins σ H' s' → Q () s') :
    wpAny (model X.prog X.w) A (setItem (.ref a) u r) Q E s := by
  rcases g with ⟨kvs, k, e, ey, l, eH⟩ | ⟨kvs, k, b, e, ey, eb, l, eH⟩
  · subst ey eH
    obtain ⟨z, hd, vs, rel, dd⟩ := dk_of I.hok e
    have hz : vs.length ≤ sizeLine := by rw [← rel.length]; exact z
    have hl : (putK kvs k v).length ≤ sizeLine := by have := length_putK kvs k v; omega
    refine wpAny_setItem_pairs (hsz := hz) (kV_is ry) dd fun h' dd' hs => h _ ?_
    have he : ∃ q, h'.get? a = some q := let ⟨q, _, _, hq, _⟩ := dd'; ⟨q, hq⟩
    exact d_write I (by rw [e]; exact True.intro) hs he (dk_new hl hd (rel.put k rv) dd')
  · subst ey eH
    cases (show u = Value.ref b from ry)
    obtain ⟨z, hd, xs, rel, dd⟩ := dt_of I.kIn I.hok e
    have hz : xs.length ≤ sizeLine := by rw [← Paired.length rel]; exact z
    have hl : (putK kvs k v).length ≤ sizeLine := by have := length_putK kvs k v; omega
    refine wpAny_setItem_heap (hsz := hz) (tupleKind_room_in1 hu) (key_of I.kIn I.hok eb) dd fun h' dd' hs => h _ ?_
    obtain ⟨q, es, ep, hq, h2, h3, h4, _, h5⟩ := dd'
    refine d_write I (by rw [e]; exact True.intro) hs ⟨q, hq⟩ ⟨hl, hd, _, (rel.put k eb rv).keeps fun c ys ec => ?_, q, es, ep, hq, h2, h3, h4, h5⟩
    rw [upd_ne (ne_of ec e (fun z => nomatch z))]
    exact ec
end

section
variable {X : Cx} {pins : List (Addr × Obj)} {σ : St} {H : Hp} {s : Shared} {a : Addr} {kvs : List (Key × V)} {k : Key} {u : Value} {A : Around} {E : Value → Shared → Prop}
/-- del d[k] -/
theorem d_delItem {Q : Unit → Shared → Prop} (I : Inv X pins σ H s) (e : H a = some (.dK kvs)) (ry : RelV (kV k) u) (l : (valV kvs k).isSome = true) (h : ∀ s', Inv X pins σ (upd H a (.dK (dropK kvs k))) s' → Q () s') :
    wpAny (model X.prog X.w) A (delItem (.ref a) u) Q E s := by
  obtain ⟨z, hd, vs, rel, dd⟩ := dk_of I.hok e
  refine wpAny_delItem_slot dd.typeIs (by decide) PySem.F.slot_dict_delitem
    (call_meetsIn PySem.F.slot_dict_delitem dd.typeIs PySem.F.entry_dict_delitem (PySem.F.args_dict_delitem_2 _ _) (meets_dict_delitem_pairs (mixKind X.prog X.w) a (kV_is ry)) ⟨vs, dd, by rw [← rel.length]; exact z, by rw [← (rel.val k).isSome_eq]; exact l, fun h' dd' hs => h _ ?_⟩)
  have he : ∃ q, h'.get? a = some q := let ⟨q, _, _, hq, _⟩ := dd'; ⟨q, hq⟩
  exact d_write I (by rw [e]; exact True.intro) hs he (dk_new (Nat.le_trans (dropK_le kvs k) z) hd (rel.drop k) dd')
/-- d.pop(k[, x]), there -/
theorem d_pop {v : V} {more : List Value} {Q : Value → Shared → Prop} (I : Inv X pins σ H s) (e : H a = some (.dK kvs)) (ry : RelV (kV k) u) (l : valV kvs k = some v) (hm : more = [] ∨ ∃ x, more = [x])
    (h : ∀ w' s', Inv X pins σ (upd H a (.dK (dropK kvs k))) s' → RelV v w' → Q w' s') : wpAny (model X.prog X.w) A (call (.builtin "dict.pop") (.ref a :: u :: more)) Q E s := by
  obtain ⟨z, hd, vs, rel, dd⟩ := dk_of I.hok e
  obtain ⟨w', hw, rw'⟩ := RelO.some_of (v := v) (o := valueAt vs k) (by rw [← l]; exact rel.val k)
  have hp : (keyPart u).isSome = true := by
    cases k with
    | inl i => obtain ⟨t, q⟩ := (show ∃ t, u = Value.int i t from ry); subst q; rfl
    | inr x => obtain ⟨t, q⟩ := (show ∃ t, u = Value.str x t from ry); subst q; rfl
  have ha : argsOk "dict.pop" ⟨.ref a :: u :: more, []⟩ := by
    rcases hm with q | ⟨x, q⟩
    · subst q; exact PySem.F.args_dict_pop_2 _ _
    · subst q; exact PySem.F.args_dict_pop_3 _ _ _
  refine call_meetsIn PySem.F.slot_dict_pop dd.typeIs PySem.F.entry_dict_pop ha (meets_dict_pop_there (mixKind X.prog X.w) a (kV_is ry) more hm hp)
    ⟨vs, w', dd, by rw [← rel.length]; exact z, hw, fun h' dd' hs => h w' _ ?_ rw'⟩
  have he : ∃ q, h'.get? a = some q := let ⟨q, _, _, hq, _⟩ := dd'; ⟨q, hq⟩
  exact d_write I (by rw [e]; exact True.intro) hs he (dk_new (Nat.le_trans (dropK_le kvs k) z) hd (rel.drop k) dd')
/-- d.pop(k, x), not there -/
theorem d_popD {r : Value} {Q : Value → Shared → Prop} (I : Inv X pins σ H s) (e : H a = some (.dK kvs)) (ry : RelV (kV k) u) (l : valV kvs k = none) (h : ∀ s', Inv X pins σ H s' → Q r s') :
    wpAny (model X.prog X.w) A (call (.builtin "dict.pop") [.ref a, u, r]) Q E s := by
  obtain ⟨z, hd, vs, rel, dd⟩ := dk_of I.hok e
  have hn : valueAt vs k = none := RelO.none_of (by rw [← l]; exact rel.val k)
  have hp : (keyPart u).isSome = true := by
    cases k with
    | inl i => obtain ⟨t, q⟩ := (show ∃ t, u = Value.int i t from ry); subst q; rfl
    | inr x => obtain ⟨t, q⟩ := (show ∃ t, u = Value.str x t from ry); subst q; rfl
  exact call_meetsIn PySem.F.slot_dict_pop dd.typeIs PySem.F.entry_dict_pop (PySem.F.args_dict_pop_3 _ _ _) (meets_dict_pop_default (mixKind X.prog X.w) a (kV_is ry) hd hp r) ⟨vs, dd, hn, h _ (I.tok _)⟩
/-- d.clear() -/
theorem d_clear {Q : Value → Shared → Prop} (I : Inv X pins σ H s) (e : H a = some (.dK kvs)) (h : ∀ s', Inv X pins σ (upd H a (.dK [])) s' → Q .none s') : wpAny (model X.prog X.w) A (call (.builtin "dict.clear") [.ref a]) Q E s := by
  obtain ⟨z, hd, vs, rel, dd⟩ := dk_of I.hok e
  refine call_meetsIn PySem.F.slot_dict_clear dd.typeIs PySem.F.entry_dict_clear (PySem.F.args_dict_clear_1 _) (meets_dict_clear (mixKind X.prog X.w) a) ⟨vs, dd, by rw [← rel.length]; exact z, fun h' dd' hs => h _ ?_⟩
  have he : ∃ q, h'.get? a = some q := let ⟨q, _, _, hq, _⟩ := dd'; ⟨q, hq⟩
  exact d_write (t' := s.toks) I (by rw [e]; exact True.intro) hs he (dk_new (Nat.zero_le _) hd .nil dd')
/-- len(d) -/
theorem d_len {Q : Value → Shared → Prop} (I : Inv X pins σ H s) (e : Rd H a (.dK kvs)) (h : ∀ t s', Inv X pins σ H s' → Q (.int kvs.length t) s') : wpAny (model X.prog X.w) A (call (.builtin "len") [.ref a]) Q E s := by
  obtain ⟨z, hd, vs, rel, dd⟩ := dk_rd I.hok e
  refine call_len_dict hd dd (by rw [← rel.length]; rw [sizeLine_eq] at z; omega) ?_
  rw [← rel.length]
  exact h _ _ (I.tok _)
/-- if d -/
theorem d_truth {Q : Bool → Shared → Prop} (I : Inv X pins σ H s) (e : Rd H a (.dK kvs)) (h : ∀ s', Inv X pins σ H s' → Q (!kvs.isEmpty) s') : wpAny (model X.prog X.w) A (truthy (.ref a)) Q E s := by
  obtain ⟨z, hd, vs, rel, dd⟩ := dk_rd I.hok e
  refine wpAny_truthy_dict hd dd (by rw [← rel.length]; rw [sizeLine_eq] at z; omega) ?_
  have q : kvs.isEmpty = vs.isEmpty := by cases rel <;> rfl
  rw [← q]
  exact h _ (I.tok _)
end


/-! ### readings and rules -/
/-- the element of a subscription, not a slice -/
def NoSl (i : Expr) : Prop := ∀ ov iv, subscripted i false ov iv = operate [ov, iv] (getItem ov iv)
theorem subD_of {prog : Program} {w : World} {A : Around} {E : Value → Shared → Prop} {s : Shared} {env : Env} {value slice : Expr} {pos : Pos} {T id : String} {Q : Value → Shared → Prop}
    (hl : typeLookup (.type T) "__getitem__" = pure (some (.builtin id))) (hs : NoSl slice)
    (h : wpAny (model prog w) A (eval value env) (fun o s₁ => wpAny (model prog w) A (eval slice env) (fun i s₂ => s₂.TypeIs o T ∧ wpAny (model prog w) A (getItem o i) Q E s₂) E s₁) E s) :
    wpAny (model prog w) A (eval (.Subscript value slice pos) env) Q E s := by
  refine Subscript_ (wpAny_mono h (fun o s₁ h₁ => wpAny_mono h₁ (fun i s₂ h₂ => ?_) fun _ _ x => x) fun _ _ x => x)
  obtain ⟨hT, h₂⟩ := h₂
  unfold subscriptTail
  refine wpAny_bind ?_
  rw [getitemInPython_of_ne hT.not_modules]
  refine wpAny_bind (wpAny_specialOf hT hl ?_)
  have fin : wpAny (model prog w) A (subscripted slice false o i) (fun r s₃ => wpAny (model prog w) A (letTemporaryGo value o r >>= fun _ => pure r) Q E s₃) E s₂ := by
    rw [hs o i]
    exact wpAny_operating (wpAny_mono h₂ (fun r s₃ h₃ => wpAny_bind (wpAny_letTemporaryGo (wpAny_pure h₃))) fun _ _ x => x)
  first
    | exact wpAny_pure (wpAny_bind fin)
    | exact wpAny_bind (wpAny_pure (wpAny_bind fin))
    | exact wpAny_bind fin

theorem dict_typeIs {X : Cx} {pins : List (Addr × Obj)} {σ : St} {H : Hp} {s : Shared} {a : Addr} {y : V} {o : Option V} (I : Inv X pins σ H s) (g : DGet X.K H a y o) : s.TypeIs (.ref a) "dict" := by
  rcases g with ⟨kvs, k, e, _, _⟩ | ⟨kvs, k, b, e, _, _, _⟩
  · obtain ⟨_, _, vs, _, dd⟩ := dk_rd I.hok e
    exact dd.typeIs
  · obtain ⟨_, _, xs, _, dd⟩ := dt_rd I.kIn I.hok e
    exact dd.typeIs
theorem dict_noDict {X : Cx} {pins : List (Addr × Obj)} {σ : St} {H : Hp} {s : Shared} {a : Addr} {y : V} {o : Option V} (I : Inv X pins σ H s) (g : DGet X.K H a y o) :
    ∀ b, Value.ref a = .ref b → ∃ ob, s.heap.get? b = some ob ∧ ob.dict = none := fun b q => by
  cases q
  rcases g with ⟨kvs, k, e, _, _⟩ | ⟨kvs, k, b, e, _, _, _⟩
  · obtain ⟨_, _, vs, _, ob, _, _, h1, h2, _⟩ := dk_rd I.hok e
    exact ⟨ob, h1, h2.2.1⟩
  · obtain ⟨_, _, xs, _, ob, _, _, h1, h2, _⟩ := dt_rd I.kIn I.hok e
    exact ⟨ob, h1, h2.2.1⟩

/-- d[y] -/
def tDGet (K : PySem.W.Frag) (td ty : TE) : TE := fun σ H Q => td σ H fun x H1 => ty σ H1 fun y H2 => ∃ a v, x = .ref a ∧ DGet K H2 a y (some v) ∧ Q v H2
/-- y in d, y not in d -/
def tDIn (K : PySem.W.Frag) (ty td : TE) : TE := fun σ H Q => ty σ H fun y H1 => td σ H1 fun x H2 => ∃ a o, x = .ref a ∧ DGet K H2 a y o ∧ Q (.bl o.isSome) H2
def tDNotIn (K : PySem.W.Frag) (ty td : TE) : TE := fun σ H Q => ty σ H fun y H1 => td σ H1 fun x H2 => ∃ a o, x = .ref a ∧ DGet K H2 a y o ∧ Q (.bl (!o.isSome)) H2
/-- d[y] = v -/
def sDPut (K : PySem.W.Frag) (td ty tv : TE) : TS := fun D σ H => tv σ H fun v H1 => td σ H1 fun x H2 => ty σ H2 fun y H3 => ∃ a H4, x = .ref a ∧ DPut K H3 a y v H4 ∧ D.nx σ H4
/-- d[y] op= v -/
def sDAug (K : PySem.W.Frag) (td ty tv : TE) (rd : V → V → Hp → VK → Prop) : TS := fun D σ H => td σ H fun x H1 => ty σ H1 fun y H2 => ∃ a v, x = .ref a ∧ DGet K H2 a y (some v) ∧
  tv σ H2 fun y2 H3 => rd v y2 H3 fun z H4 => ∃ H5, DPut K H4 a y z H5 ∧ D.nx σ H5
/-- del d[y] -/
def sDDel (td ty : TE) : TS := fun D σ H => td σ H fun x H1 => ty σ H1 fun y H2 => ∃ a kvs k, x = .ref a ∧ H2 a = some (.dK kvs) ∧ y = kV k ∧ (valV kvs k).isSome = true ∧ D.nx σ (upd H2 a (.dK (dropK kvs k)))

section
variable {X : Cx} {o i e value : Expr} {pos pos' tpos : Pos} {td ty tv : TE}
theorem pe_dget (hu : X.A.units + 1 < cLine) (ho : PE X o td) (hi : PE X i ty) (hs : NoSl i) : PE X (.Subscript o i pos) (tDGet X.K td ty) := by
  intro pins s σ H Q I h
  refine subD_of PySem.F.slot_dict_getitem.lookup hs (thn (ho pins s σ H _ I h) fun u s1 ⟨x, H1, I1, rx, q1⟩ => thn (hi pins s1 σ H1 _ I1 q1) fun iv s2 ⟨y, H2, I2, ry, a, v, ex, g, q2⟩ => ?_)
  subst ex
  obtain rfl : u = Value.ref a := rx
  exact ⟨dict_typeIs I2 g, d_getItem hu I2 g ry fun w' s3 I3 rw' => ⟨v, H2, I3, rw', q2⟩⟩
theorem pc_din (hu : X.A.units + 1 < cLine) (hi : PE X i ty) (ho : PE X o td) : PC X .In i o (tDIn X.K ty td) := by
  intro pins s σ H Q I h
  refine thn (hi pins s σ H _ I h) fun iv s1 ⟨y, H1, I1, ry, q1⟩ => thn (ho pins s1 σ H1 _ I1 q1) fun u s2 ⟨x, H2, I2, rx, a, ov, ex, g, q2⟩ => ?_
  subst ex
  obtain rfl : u = Value.ref a := rx
  exact d_in hu I2 g ry fun s3 I3 => ⟨.bl ov.isSome, H2, I3, rfl, q2⟩
theorem pc_dnotin (hu : X.A.units + 1 < cLine) (hi : PE X i ty) (ho : PE X o td) : PC X .NotIn i o (tDNotIn X.K ty td) := by
  intro pins s σ H Q I h
  refine thn (hi pins s σ H _ I h) fun iv s1 ⟨y, H1, I1, ry, q1⟩ => thn (ho pins s1 σ H1 _ I1 q1) fun u s2 ⟨x, H2, I2, rx, a, ov, ex, g, q2⟩ => ?_
  subst ex
  obtain rfl : u = Value.ref a := rx
  exact d_notIn hu I2 g ry fun s3 I3 => ⟨.bl (!ov.isSome), H2, I3, rfl, q2⟩
theorem ps_dput (hu : X.A.units + 1 < cLine) (ho : PE X o td) (hi : PE X i ty) (hv : PE X value tv) (hs : swapsWith value (some (.Subscript o i pos')) pos.line X.env = pure false) :
    PS X (.Assign [.Subscript o i pos'] value pos) (sDPut X.K td ty tv) := by
  intro pins s σ H D I h
  refine wpAny_Assign_Subscript (thn (hv pins s σ H _ I h) fun r s1 ⟨v, H1, I1, rv, q1⟩ => thn (ho pins s1 σ H1 _ I1 q1) fun u s2 ⟨x, H2, I2, rx, q2⟩ => thn (hi pins s2 σ H2 _ I2 q2) fun iv s3 ⟨y, H3, I3, ry, a, H4, ex, g, q3⟩ => ?_) hs
  subst ex
  obtain rfl : u = Value.ref a := rx
  exact d_setItem hu I3 g ry rv fun s4 I4 => ⟨σ, H4, I4, q3⟩
theorem ps_daug {op : Operator} {rd : V → V → Hp → VK → Prop} (hu : X.A.units + 1 < cLine) (ho : PE X o td) (hi : PE X i ty) (hv : PE X value tv) (hop : InOp X op rd)
    (ha : ∀ ov iv new, augStore i ov iv new = (do holding [new, ov, iv] (setItem ov iv new); release [new, ov, iv] []; pure .next)) : PS X (.AugAssign (.Subscript o i tpos) op value pos) (sDAug X.K td ty tv rd) := by
  intro pins s σ H D I h
  refine wpAny_AugAssign_SubscriptAny (thn (ho pins s σ H _ I h) fun u s1 ⟨x, H1, I1, rx, q1⟩ => thn (hi pins s1 σ H1 _ I1 q1) fun iv s2 ⟨y, H2, I2, ry, a, v, ex, g, q2⟩ => ?_) ha
  subst ex
  obtain rfl : u = Value.ref a := rx
  refine d_getItem hu I2 g ry fun w' s3 I3 rw' => thn (hv pins s3 σ H2 _ I3 q2) fun w2 s4 ⟨y2, H3, I4, ry2, q3⟩ => thn (hop pins s4 σ H3 v y2 w' w2 _ I4 rw' ry2 q3) fun w3 s5 ⟨z, H4, I5, rz, H5, g5, q4⟩ => ?_
  exact d_setItem hu I5 g5 ry rz fun s6 I6 => ⟨σ, H5, I6, q4⟩
theorem ps_ddel (ho : PE X o td) (hi : PE X i ty) : PS X (.Delete [.Subscript o i tpos] pos) (sDDel td ty) := by
  intro pins s σ H D I h
  refine wpAny_Delete (wpAny_deleteEach_cons (wpAny_delete_Subscript (thn (ho pins s σ H _ I h) fun u s1 ⟨x, H1, I1, rx, q1⟩ => thn (hi pins s1 σ H1 _ I1 q1) fun iv s2 ⟨y, H2, I2, ry, a, kvs, k, ex, e, ey, l, q2⟩ => ?_)))
  subst ex ey
  obtain rfl : u = Value.ref a := rx
  exact d_delItem I2 e ry l fun s3 I3 => wpAny_deleteEach_nil ⟨σ, _, I3, q2⟩
end


/-! ### displays -/
theorem dk_empty {P : Program} {w : World} {K : PySem.W.Frag} {H : Hp} (h : Heap) (hb : sysModules < h.objs.size) : ObjOk P w K H (h.push { cls := .type "dict", data := .dict #[] }) h.objs.size (.dK []) :=
  ⟨Nat.zero_le _, beq_eq_false_iff_ne.mpr (Ne.symm (Nat.ne_of_lt hb)), [], .nil, Heap.DictOf.new h⟩
theorem dt_empty {P : Program} {w : World} {K : PySem.W.Frag} {H : Hp} (h : Heap) (hb : sysModules < h.objs.size) : ObjOk P w K H (h.push { cls := .type "dict", data := .dict #[] }) h.objs.size (.dT []) :=
  ⟨Nat.zero_le _, beq_eq_false_iff_ne.mpr (Ne.symm (Nat.ne_of_lt hb)), [], .nil, _, #[], 0, Heap.get?_push_size _ rfl, ⟨rfl, rfl, rfl⟩, rfl, rfl, List.nodup_nil⟩
/-- {}, to be a dict of the kind that is wanted -/
def tDNewK : TE := fun _ H Q => ∀ p, H p = none → Q (.ref p) (upd H p (.dK []))
def tDNewT : TE := fun _ H Q => ∀ p, H p = none → Q (.ref p) (upd H p (.dT []))
section
variable {X : Cx} {pos : Pos}
theorem pe_dnewK : PE X (.Dict [] [] pos) tDNewK := fun pins s σ H Q I h =>
  wpAny_Dict_empty ⟨.ref s.heap.objs.size, _, I.laid (a := s.heap.objs.size) (o := .dK []) (t' := s.toks) (fun _ _ q => Heap.get?_push_of_some _ q) (Nat.le_refl _) (dk_empty s.heap I.big), rfl, h _ (I.hok.fresh (Nat.le_refl _))⟩
theorem pe_dnewT : PE X (.Dict [] [] pos) tDNewT := fun pins s σ H Q I h =>
  wpAny_Dict_empty ⟨.ref s.heap.objs.size, _, I.laid (a := s.heap.objs.size) (o := .dT []) (t' := s.toks) (fun _ _ q => Heap.get?_push_of_some _ q) (Nat.le_refl _) (dt_empty s.heap I.big), rfl, h _ (I.hok.fresh (Nat.le_refl _))⟩
end

/-- the pairs of a display, from the left -/
def tPairs : List (TE × TE) → St → Hp → (List (V × V) → Hp → Prop) → Prop
  | [], _, H, Q => Q [] H
  | (tk, tv) :: r, σ, H, Q => tk σ H fun x H1 => tv σ H1 fun y H2 => tPairs r σ H2 fun ps H3 => Q ((x, y) :: ps) H3
abbrev VV : List (V × V) → List (Value × Value) → Prop := Paired fun p q => RelV p.1 q.1 ∧ RelV p.2 q.2
def PPs (X : Cx) (pos : Pos) (keys : List (Option Expr)) (values : List Expr) (trs : List (TE × TE)) : Prop :=
  ∀ (pins : List (Addr × Obj)) (s : Shared) (σ : St) (H : Hp) (Q : List (V × V) → Hp → Prop), Inv X pins σ H s → tPairs trs σ H Q →
    wpAny (model X.prog X.w) X.A (evalPairs (pairTrees keys values X.env pos)) (fun vs s' => ∃ ps H', Inv X pins σ H' s' ∧ VV ps vs ∧ Q ps H') X.xe s
theorem pps_nil {X : Cx} {pos : Pos} : PPs X pos [] [] [] := fun pins s σ H Q I h => pairTrees_nil_walk ⟨[], H, I, .nil, h⟩
theorem pps_cons {X : Cx} {pos : Pos} {k v : Expr} {ks : List (Option Expr)} {vs : List Expr} {tk tv : TE} {trs : List (TE × TE)} (hk : PE X k tk) (hv : PE X v tv) (hr : PPs X pos ks vs trs) :
    PPs X pos (some k :: ks) (v :: vs) ((tk, tv) :: trs) := fun pins s σ H Q I h =>
  pairTrees_cons_walk (thn (hk pins s σ H _ I h) fun u s1 ⟨x, H1, I1, rx, q1⟩ => thn (hv pins s1 σ H1 _ I1 q1) fun w2 s2 ⟨y, H2, I2, ry, q2⟩ =>
    thn (hr pins s2 σ H2 _ I2 q2) fun ws s3 ⟨ps, H3, I3, rel, q3⟩ => ⟨(x, y) :: ps, H3, I3, .cons ⟨rx, ry⟩ rel, q3⟩)

def mergeK (kvs more : List (Key × V)) : List (Key × V) := more.foldl (fun acc kv => putK acc kv.1 kv.2) kvs
theorem KV.merge : ∀ {more : List (Key × V)} {rs : List (Key × Value)} {kvs : List (Key × V)} {vs : List (Key × Value)}, KV more rs → KV kvs vs → KV (mergeK kvs more) (merged vs rs) := by
  intro more rs kvs vs r
  unfold KV at r
  induction r generalizing kvs vs with
  | nil => intro q; exact q
  | @cons p q ps qs h t ih =>
    intro r0
    have e : KV (putK kvs p.1 p.2) (stored vs q.1 q.2) := by
      have := r0.put p.1 h.2
      rw [← h.1]; exact this
    exact ih e
theorem length_mergeK : ∀ (more kvs : List (Key × V)), (mergeK kvs more).length ≤ kvs.length + more.length
  | [], kvs => by show kvs.length ≤ kvs.length + 0; omega
  | p :: r, kvs => by
    have h1 := length_mergeK r (putK kvs p.1 p.2)
    have h2 := length_putK kvs p.1 p.2
    show (mergeK (putK kvs p.1 p.2) r).length ≤ _
    rw [List.length_cons]; omega
theorem carries_of {P : Program} {w : World} : ∀ {kvs : List (Key × V)} {ws : List (Value × Value)}, VV (kvs.map fun kv => (kV kv.1, kv.2)) ws → ∃ rs, Carries (mixKind P w) ws rs ∧ KV kvs rs
  | [], _, r => by rw [List.map_nil] at r; cases r; exact ⟨[], True.intro, .nil⟩
  | p :: kvs, _, r => by
    rw [List.map_cons] at r
    cases r with
    | @cons a b as bs h t =>
      obtain ⟨rs, c, q⟩ := carries_of (P := P) (w := w) t
      obtain ⟨b1, b2⟩ := b
      exact ⟨(p.1, b2) :: rs, ⟨kV_is h.1, rfl, c⟩, .cons ⟨rfl, h.2⟩ q⟩
/-- {k: v, ..} with keys ints and texts; the new dict stands empty while the pairs are made -/
def tDisp (trs : List (TE × TE)) : TE := fun σ H Q => ∀ p, H p = none → tPairs trs σ (upd H p (.dK [])) fun ps H2 => H2 p = some (.dK []) ∧ ∃ kvs : List (Key × V), ps = kvs.map (fun kv => (kV kv.1, kv.2)) ∧ kvs.length ≤ 15 ∧ Q (.ref p) (upd H2 p (.dK (mergeK [] kvs)))
theorem pe_disp {X : Cx} {pos : Pos} {keys : List (Option Expr)} {values : List Expr} {trs : List (TE × TE)} (h : PPs X pos keys values trs) (hall : keys.all (·.isSome) = true) (hl : keys.length = values.length) (h0 : keys ≠ [])
    (h15 : keys.length ≤ 15) : PE X (.Dict keys values pos) (tDisp trs) := by
  intro pins s σ H Q I q
  have hn := I.hok.fresh (Nat.le_refl s.heap.objs.size)
  have I1 := I.laid (a := s.heap.objs.size) (o := .dK []) (h' := s.heap.push { cls := .type "dict", data := .dict #[] }) (t' := s.toks) (fun _ _ q => Heap.get?_push_of_some _ q) (Nat.le_refl _) (dk_empty s.heap I.big)
  refine wpAny_Dict_walk (knd := mixKind X.prog X.w) hall hl h0 h15 (thn (h pins _ σ _ _ I1 (q _ hn)) fun ws s2 ⟨ps, H2, I2, rel, e, kvs, ep, lk, q2⟩ => ?_)
  subst ep
  obtain ⟨rs, c, rk⟩ := carries_of (P := X.prog) (w := X.w) rel
  obtain ⟨z, hd, vs0, r0, dd⟩ := dk_of I2.hok e
  cases r0
  refine ⟨rs, c, dd, fun h' dd' hs => ⟨.ref s.heap.objs.size, _, ?_, rfl, q2⟩⟩
  have hz : (mergeK [] kvs).length ≤ sizeLine := by
    have h1 := length_mergeK kvs []
    rw [List.length_nil] at h1
    rw [sizeLine_eq]; omega
  have he : ∃ q, h'.get? s.heap.objs.size = some q := let ⟨q, _, _, hq, _⟩ := dd'; ⟨q, hq⟩
  exact d_write I2 (by rw [e]; exact True.intro) hs he (dk_new hz hd (rk.merge .nil) dd')


/-! ### methods -/
/-- a method call o.m(e) of a built-in, with one argument: what must be seen of the text -/
structure M1 (X : Cx) (o : Expr) (m : Str) (apos : Pos) (e : Expr) (cpos : Pos) : Prop where
  base : attributeBase o m X.env (eval o X.env) = eval o X.env
  few : ((backTo cpos (starEach [e] X.env)).all (fun x => !x.1) && (backToKw cpos (keywordEach [] X.env)).all (fun x => x.1.isSome)
    && decide (([e] : List Expr).length + ([] : List Keyword).length + (if ([] : List Keyword).isEmpty then 0 else 1) < 30)) = true
  line : (apos.endLine == cpos.line) = true
  trees : backTo cpos (starEach [e] X.env) = [(false, eval e X.env)]
structure M2 (X : Cx) (o : Expr) (m : Str) (apos : Pos) (e f : Expr) (cpos : Pos) : Prop where
  base : attributeBase o m X.env (eval o X.env) = eval o X.env
  few : ((backTo cpos (starEach [e, f] X.env)).all (fun x => !x.1) && (backToKw cpos (keywordEach [] X.env)).all (fun x => x.1.isSome)
    && decide (([e, f] : List Expr).length + ([] : List Keyword).length + (if ([] : List Keyword).isEmpty then 0 else 1) < 30)) = true
  line : (apos.endLine == cpos.line) = true
  trees : backTo cpos (starEach [e, f] X.env) = [(false, eval e X.env), (false, eval f X.env)]

/-- a is a dict, whatever its keys -/
def IsD (H : Hp) (a : Addr) : Prop := (∃ kvs, Rd H a (.dK kvs)) ∨ ∃ kvs, Rd H a (.dT kvs)
theorem isD_at {X : Cx} {pins : List (Addr × Obj)} {σ : St} {H : Hp} {s : Shared} {a : Addr} (I : Inv X pins σ H s) (d : IsD H a) :
    s.TypeIs (.ref a) "dict" ∧ (∀ b, Value.ref a = .ref b → ∃ ob, s.heap.get? b = some ob ∧ ob.dict = none) ∧ (a == sysModules) = false := by
  rcases d with ⟨kvs, e⟩ | ⟨kvs, e⟩
  · obtain ⟨_, hd, vs, _, dd⟩ := dk_rd I.hok e
    refine ⟨dd.typeIs, fun b q => ?_, hd⟩
    cases q
    obtain ⟨ob, _, _, h1, h2, _⟩ := dd
    exact ⟨ob, h1, h2.2.1⟩
  · obtain ⟨_, hd, xs, _, dd⟩ := dt_rd I.kIn I.hok e
    refine ⟨dd.typeIs, fun b q => ?_, hd⟩
    cases q
    obtain ⟨ob, _, _, h1, h2, _⟩ := dd
    exact ⟨ob, h1, h2.2.1⟩

section
variable {X : Cx} {pins : List (Addr × Obj)} {σ : St} {H : Hp} {s : Shared} {a : Addr} {y d : V} {u r : Value} {o : Option V} {A : Around} {E : Value → Shared → Prop}
/-- d.get(y) -/
theorem d_get1 {Q : Value → Shared → Prop} (hu : A.units + 1 < cLine) (I : Inv X pins σ H s) (g : DGet X.K H a y o) (ry : RelV y u) (h : ∀ w' s', Inv X pins σ H s' → RelV (o.getD .non) w' → Q w' s') :
    wpAny (model X.prog X.w) A (call (.builtin "dict.get") [.ref a, u]) Q E s := by
  rcases g with ⟨kvs, k, e, ey, l⟩ | ⟨kvs, k, b, e, ey, eb, l⟩
  · subst ey
    obtain ⟨z, hd, vs, rel, dd⟩ := dk_rd I.hok e
    refine call_meetsIn PySem.F.slot_dict_get dd.typeIs PySem.F.entry_dict_get (PySem.F.args_dict_get_2 _ _) (meets_dict_get (mixKind X.prog X.w) a (kV_is ry) hd) ⟨_, dd.mapOf, h _ _ (I.tok _) ?_⟩
    rw [l]
    exact (rel.val k).getD rfl
  · subst ey
    cases (show u = Value.ref b from ry)
    obtain ⟨z, hd, xs, rel, dd⟩ := dt_rd I.kIn I.hok e
    refine call_meetsIn PySem.F.slot_dict_get dd.typeIs PySem.F.entry_dict_get (PySem.F.args_dict_get_2 _ _) (meetsH_dict_get (tupleKind (mixKind X.prog X.w)) a b hd) ⟨tupleKind_room_in1 hu, k, xs, key_of I.kIn I.hok eb, dd, h _ _ (I.tok _) ?_⟩
    rw [l]
    exact (rel.val k).getD rfl
/-- d.get(y, x) -/
theorem d_get2 {Q : Value → Shared → Prop} (hu : A.units + 1 < cLine) (I : Inv X pins σ H s) (g : DGet X.K H a y o) (ry : RelV y u) (rd : RelV d r) (h : ∀ w' s', Inv X pins σ H s' → RelV (o.getD d) w' → Q w' s') :
    wpAny (model X.prog X.w) A (call (.builtin "dict.get") [.ref a, u, r]) Q E s := by
  rcases g with ⟨kvs, k, e, ey, l⟩ | ⟨kvs, k, b, e, ey, eb, l⟩
  · subst ey
    obtain ⟨z, hd, vs, rel, dd⟩ := dk_rd I.hok e
    refine call_meetsIn PySem.F.slot_dict_get dd.typeIs PySem.F.entry_dict_get (PySem.F.args_dict_get_3 _ _ _) (meets_dict_get_default (mixKind X.prog X.w) a (kV_is ry) hd r) ⟨_, dd.mapOf, h _ _ (I.tok _) ?_⟩
    rw [l]
    exact (rel.val k).getD rd
  · subst ey
    cases (show u = Value.ref b from ry)
    obtain ⟨z, hd, xs, rel, dd⟩ := dt_rd I.kIn I.hok e
    refine call_meetsIn PySem.F.slot_dict_get dd.typeIs PySem.F.entry_dict_get (PySem.F.args_dict_get_3 _ _ _) (meetsH_dict_get_default (tupleKind (mixKind X.prog X.w)) a b hd r) ⟨tupleKind_room_in1 hu, k, xs, key_of I.kIn I.hok eb, dd, h _ _ (I.tok _) ?_⟩
    rw [l]
    exact (rel.val k).getD rd
end

def tDGet1 (K : PySem.W.Frag) (td ty : TE) : TE := fun σ H Q => td σ H fun x H1 => ∃ a, x = .ref a ∧ IsD H1 a ∧ ty σ H1 fun y H2 => ∃ o, DGet K H2 a y o ∧ Q (o.getD .non) H2
def tDGet2 (K : PySem.W.Frag) (td ty tx : TE) : TE := fun σ H Q => td σ H fun x H1 => ∃ a, x = .ref a ∧ IsD H1 a ∧ ty σ H1 fun y H2 => tx σ H2 fun z H3 => ∃ o, DGet K H3 a y o ∧ Q (o.getD z) H3
/-- d.pop(k): there; d.pop(k, x): there or not -/
def tDPop1 (td ty : TE) : TE := fun σ H Q => td σ H fun x H1 => ∃ a, x = .ref a ∧ IsD H1 a ∧ ty σ H1 fun y H2 => ∃ kvs k v, H2 a = some (.dK kvs) ∧ y = kV k ∧ valV kvs k = some v ∧ Q v (upd H2 a (.dK (dropK kvs k)))
def tDPop2 (td ty tx : TE) : TE := fun σ H Q => td σ H fun x H1 => ∃ a, x = .ref a ∧ IsD H1 a ∧ ty σ H1 fun y H2 => tx σ H2 fun z H3 => ∃ kvs k, H3 a = some (.dK kvs) ∧ y = kV k ∧
  (∀ v, valV kvs k = some v → Q v (upd H3 a (.dK (dropK kvs k)))) ∧ (valV kvs k = none → Q z H3)
section
variable {X : Cx} {o e f : Expr} {apos cpos : Pos} {td ty tx : TE}
theorem pe_dget1 (hu : X.A.units + 1 < cLine) (ho : PE X o td) (he : PE X e ty) (m : M1 X o "get" apos e cpos) : PE X (.Call (.Attribute o "get" apos) [e] [] cpos) (tDGet1 X.K td ty) := by
  intro pins s σ H Q I h
  refine wpAny_Call_method m.base m.few m.line PySem.F.plainAttrs_dict PySem.F.slot_dict_get PySem.F.type_dict_get (thn (ho pins s σ H _ I h) fun u s1 ⟨x, H1, I1, rx, a, ex, d, q1⟩ => ?_)
  subst ex
  obtain rfl : u = Value.ref a := rx
  obtain ⟨t1, t2, _⟩ := isD_at I1 d
  refine ⟨t1, t2, ?_⟩
  rw [m.trees]
  refine Calls.callWith_builtin rfl (Calls.evalArgs_plain (Calls.spliced_cons (thn (he pins s1 σ H1 _ I1 q1) fun iv s2 ⟨y, H2, I2, ry, ov, g, q2⟩ => Calls.spliced_nil ?_)))
  exact d_get1 hu I2 g ry fun w' s3 I3 rw' => ⟨_, H2, I3, rw', q2⟩
theorem pe_dget2 (hu : X.A.units + 1 < cLine) (ho : PE X o td) (he : PE X e ty) (hf : PE X f tx) (m : M2 X o "get" apos e f cpos) : PE X (.Call (.Attribute o "get" apos) [e, f] [] cpos) (tDGet2 X.K td ty tx) := by
  intro pins s σ H Q I h
  refine wpAny_Call_method m.base m.few m.line PySem.F.plainAttrs_dict PySem.F.slot_dict_get PySem.F.type_dict_get (thn (ho pins s σ H _ I h) fun u s1 ⟨x, H1, I1, rx, a, ex, d, q1⟩ => ?_)
  subst ex
  obtain rfl : u = Value.ref a := rx
  obtain ⟨t1, t2, _⟩ := isD_at I1 d
  refine ⟨t1, t2, ?_⟩
  rw [m.trees]
  refine Calls.callWith_builtin rfl (Calls.evalArgs_plain (Calls.spliced_cons (thn (he pins s1 σ H1 _ I1 q1) fun iv s2 ⟨y, H2, I2, ry, q2⟩ =>
    Calls.spliced_cons (thn (hf pins s2 σ H2 _ I2 q2) fun fv s3 ⟨z, H3, I3, rz, ov, g, q3⟩ => Calls.spliced_nil ?_))))
  exact d_get2 hu I3 g ry rz fun w' s4 I4 rw' => ⟨_, H3, I4, rw', q3⟩
theorem pe_dpop1 (ho : PE X o td) (he : PE X e ty) (m : M1 X o "pop" apos e cpos) : PE X (.Call (.Attribute o "pop" apos) [e] [] cpos) (tDPop1 td ty) := by
  intro pins s σ H Q I h
  refine wpAny_Call_method m.base m.few m.line PySem.F.plainAttrs_dict PySem.F.slot_dict_pop PySem.F.type_dict_pop (thn (ho pins s σ H _ I h) fun u s1 ⟨x, H1, I1, rx, a, ex, d, q1⟩ => ?_)
  subst ex
  obtain rfl : u = Value.ref a := rx
  obtain ⟨t1, t2, _⟩ := isD_at I1 d
  refine ⟨t1, t2, ?_⟩
  rw [m.trees]
  refine Calls.callWith_builtin rfl (Calls.evalArgs_plain (Calls.spliced_cons (thn (he pins s1 σ H1 _ I1 q1) fun iv s2 ⟨y, H2, I2, ry, kvs, k, v, ea, ey, l, q2⟩ => Calls.spliced_nil ?_)))
  subst ey
  exact d_pop I2 ea ry l (.inl rfl) fun w' s3 I3 rw' => ⟨v, _, I3, rw', q2⟩
theorem pe_dpop2 (ho : PE X o td) (he : PE X e ty) (hf : PE X f tx) (m : M2 X o "pop" apos e f cpos) : PE X (.Call (.Attribute o "pop" apos) [e, f] [] cpos) (tDPop2 td ty tx) := by
  intro pins s σ H Q I h
  refine wpAny_Call_method m.base m.few m.line PySem.F.plainAttrs_dict PySem.F.slot_dict_pop PySem.F.type_dict_pop (thn (ho pins s σ H _ I h) fun u s1 ⟨x, H1, I1, rx, a, ex, d, q1⟩ => ?_)
  subst ex
  obtain rfl : u = Value.ref a := rx
  obtain ⟨t1, t2, _⟩ := isD_at I1 d
  refine ⟨t1, t2, ?_⟩
  rw [m.trees]
  refine Calls.callWith_builtin rfl (Calls.evalArgs_plain (Calls.spliced_cons (thn (he pins s1 σ H1 _ I1 q1) fun iv s2 ⟨y, H2, I2, ry, q2⟩ =>
    Calls.spliced_cons (thn (hf pins s2 σ H2 _ I2 q2) fun fv s3 ⟨z, H3, I3, rz, kvs, k, ea, ey, q3, q4⟩ => Calls.spliced_nil ?_))))
  subst ey
  cases l : valV kvs k with
  | some v => exact d_pop I3 ea ry l (.inr ⟨fv, rfl⟩) fun w' s4 I4 rw' => ⟨v, _, I4, rw', q3 v l⟩
  | none => exact d_popD I3 ea ry l fun s4 I4 => ⟨z, H3, I4, rz, q4 l⟩
end

/-! ### dict(d): a copy -/
section
variable {X : Cx} {pins : List (Addr × Obj)} {σ : St} {H : Hp} {s : Shared} {a : Addr} {kvs : List (Key × V)} {A : Around} {E : Value → Shared → Prop}
theorem d_copyOf {Q : Value → Shared → Prop} (I : Inv X pins σ H s) (e : Rd H a (.dK kvs)) (h : ∀ p s', H p = none → Inv X pins σ (upd H p (.dK kvs)) s' → Q (.ref p) s') : wpAny (model X.prog X.w) A (call (.type "dict") [.ref a]) Q E s := by
  obtain ⟨z, hd, vs, rel, dd⟩ := dk_rd I.hok e
  refine kt_call_dict hd dd (by rw [← rel.length]; exact z) fun h' dd' hs => ?_
  refine h _ _ (I.hok.fresh (Nat.le_refl _)) (I.laid (a := s.heap.objs.size) (o := .dK kvs) (t' := s.toks) (fun b q hq => ?_) (Nat.le_refl _) (dk_new z (beq_eq_false_iff_ne.mpr (Ne.symm (Nat.ne_of_lt I.big))) rel dd'))
  exact (hs.2 b (Nat.ne_of_lt (Heap.lt_size hq))).trans (Heap.get?_push_of_some _ hq)
end


section
variable {X : Cx} {pins : List (Addr × Obj)} {σ : St} {H : Hp} {s : Shared} {a : Addr} {y : V} {u : Value} {A : Around} {E : Value → Shared → Prop}
/-- d[y], not there: a KeyError -/
theorem d_missing {Q : Value → Shared → Prop} (hu : A.units + 1 < cLine) (hh : A.handled = none) (I : Inv X pins σ H s) (g : DGet X.K H a y none) (ry : RelV y u)
    (h : ∀ h' e t', Heap.NewExc s.heap h' e "KeyError" → E (.ref e) { s with heap := h', toks := t' }) : wpAny (model X.prog X.w) A (getItem (.ref a) u) Q E s := by
  rcases g with ⟨kvs, k, e, ey, l⟩ | ⟨kvs, k, b, e, ey, eb, l⟩
  · subst ey
    obtain ⟨z, hd, vs, rel, dd⟩ := dk_rd I.hok e
    have hn : valueAt vs k = none := RelO.none_of (by rw [l]; exact rel.val k)
    exact wpAny_getItem_missing_of (kV_is ry) hd hh dd.mapOf hn fun h' ex ne => h h' ex _ ne
  · subst ey
    cases (show u = Value.ref b from ry)
    obtain ⟨z, hd, xs, rel, dd⟩ := dt_rd I.kIn I.hok e
    have hn : (atKey xs k).map (·.2) = none := RelO.none_of (by rw [l]; exact rel.val k)
    exact wpAny_getItem_missing_heap (tupleKind_room_in1 hu) (key_of I.kIn I.hok eb) hd hh dd (Option.map_eq_none_iff.mp hn) fun h' ex ne => h h' ex _ ne
end
end L2

namespace HT
open PySem PyProof.Rows

/-- t < u of tuples of ints -/
def lexLt : List Int → List Int → Bool
  | [], [] => false
  | [], _ :: _ => true
  | _ :: _, [] => false
  | x :: xs, y :: ys => if x = y then lexLt xs ys else decide (x < y)
theorem lexLt_cons (x y : Int) (xs ys : List Int) : lexLt (x :: xs) (y :: ys) = if x = y then lexLt xs ys else decide (x < y) := rfl
theorem lexLt_nil_nil : lexLt [] [] = false := rfl
theorem lexLt_nil_cons (y : Int) (ys : List Int) : lexLt [] (y :: ys) = true := rfl
theorem lexLt_cons_nil (x : Int) (xs : List Int) : lexLt (x :: xs) [] = false := rfl

theorem eqAt_int (A : Around) (s : Shared) (a : Int) (t : Tok) (c : Int) (u : Tok) : ∃ e, SeqAt.EqAt A s (.int a t) (.int c u) e ∧ (e = true ↔ a = c) :=
  ⟨(a == c), SeqAt.EqAt.int_int a t c u, by simp⟩
theorem rcLt_int (A : Around) (s : Shared) (a : Int) (t : Tok) (c : Int) (u : Tok) (prog : Program) (w : World) (E : Value → Shared → Prop) (Q : Value → Shared → Prop) (h : Q (.bool (decide (a < c))) s) :
    wpAny (model prog w) A (richCompare .Lt (.int a t) (.int c u)) Q E s :=
  (PyProof.Rows.lt_int h : wpAny (model prog w) A (compareOp .Lt (.int a t) (.int c u)) Q E s)

section
open PySem.SeqAt
open PySem.AutoSeq1 (wpAny_loadPart')
open PySem.MeetsSeq PySem.MeetsSeq2 PySem.MeetsSeq3

theorem tuple_lt_ints (l b : Addr) (items items2 : Array Value) (n n2 : Nat) (dd dd2 : Option Addr) (sl sl2 : Array (Option Value)) (ns ms : List Int) (hi : IntsAre items.toList ns) (hj : IntsAre items2.toList ms) :
    Meets (Builtin.«tuple.__lt__» ⟨[.ref l, .ref b], []⟩)
      (fun _ R s => s.heap.get? l = some { cls := .type "tuple", dict := dd, data := .seq items n, slots := sl } ∧ s.heap.get? b = some { cls := .type "tuple", dict := dd2, data := .seq items2 n2, slots := sl2 } ∧
        R (.ok (.ret (.bool (lexLt ns ms)))) s) :=
  .of_wp fun prog w A R s h => by
    obtain ⟨hp, g, d, tk, os⟩ := s; obtain ⟨hl, hb, h⟩ := h
    have f2 := AutoSeq1.sub_tuple_tuple
    have z1 : items.size = ns.length := by rw [← hi.length]; simp
    have z2 : items2.size = ms.length := by rw [← hj.length]; simp
    wp_walk using wpAny_loadPart' hl, wpAny_loadPart' hb, wpAny_forIn_list _ (fun rest b s' => b.1 = none ∧ s' = ⟨hp, g, d, tk, os⟩ ∧ ∃ (vs ws : List Value) (ns' ms' : List Int), rest = vs.zip ws ∧
      IntsAre vs ns' ∧ IntsAre ws ms' ∧ ns'.length + items2.size = ms'.length + items.size ∧ R (.ok (.ret (.bool (lexLt ns' ms')))) ⟨hp, g, d, tk, os⟩) _
    case turn =>
      rintro ⟨y, x⟩ rest b s' ⟨hb', rfl, vs, ws, ns', ms', hz, hvi, hwi, hlen, hR⟩
      cases hvi with
      | nil => rw [List.zip_nil_left] at hz; cases hz
      | cons a t hvi' =>
        cases hwi with
        | nil => rw [List.zip_nil_right] at hz; cases hz
        | cons c u hwi' =>
          rw [List.zip_cons_cons] at hz
          injection hz with hyx hrest
          injection hyx with hy hx
          subst hy hx
          rw [lexLt_cons] at hR
          simp only [List.length_cons] at hlen
          obtain ⟨e, he, hiff⟩ := eqAt_int A.in1 ⟨hp, g, d, tk, os⟩ a t c u
          refine wpAny_bind (he prog w _ _ ?_)
          cases e with
          | true =>
            rw [if_pos (hiff.mp rfl)] at hR
            wp_walk
            exact ⟨rfl, rfl, _, _, _, _, hrest, hvi', hwi', by omega, hR⟩
          | false =>
            rw [if_neg (fun q => absurd (hiff.mpr q) Bool.false_ne_true)] at hR
            have hri := rcLt_int A.in1 ⟨hp, g, d, tk, os⟩ a t c u prog w
            wp_walk using hri
            exact ⟨_, rfl, by simpa using hR⟩
    case fin =>
      rintro ⟨b1, b2⟩ s' ⟨hb', rfl, vs, ws, ns', ms', hz, hvi, hwi, hlen, hR⟩
      simp only at hb'
      subst hb'
      have hv : lexLt ns' ms' = decide (items.size < items2.size) := by
        cases hvi with
        | nil =>
          cases hwi with
          | nil =>
            simp only [List.length_nil] at hlen
            rw [lexLt_nil_nil]
            exact (decide_eq_false (by omega)).symm
          | cons c u hw =>
            simp only [List.length_nil, List.length_cons] at hlen
            rw [lexLt_nil_cons]
            exact (decide_eq_true (by omega)).symm
        | cons a t hv =>
          cases hwi with
          | nil =>
            simp only [List.length_nil, List.length_cons] at hlen
            rw [lexLt_cons_nil]
            exact (decide_eq_false (by omega)).symm
          | cons c u hw =>
            rw [List.zip_cons_cons] at hz
            cases hz
      rw [hv] at hR
      wp_walk
      exact ⟨_, rfl, by simpa [Builtin.Tuple.tupleCompareSizes] using hR⟩
    case h =>
      exact ⟨rfl, rfl, items.toList, items2.toList, ns, ms, rfl, hi, hj, by omega, h⟩
end

section
variable {prog : Program} {w : World} {A : Around} {E : Value → Shared → Prop} {s : Shared}

theorem lt_tupInts {l b : Addr} {items items2 : Array Value} {ns ms : List Int} {Q : Value → Shared → Prop} (hl : IsTup s.heap l items) (hb : IsTup s.heap b items2) (hi : IntsAre items.toList ns) (hj : IntsAre items2.toList ms)
    (hu : A.units < cLine) (h : Q (.bool (lexLt ns ms)) s) : wpAny (model prog w) A (compareOp .Lt (.ref l) (.ref b)) Q E s := by
  obtain ⟨⟨cls, dd, data, sl⟩, ho, hc, n, hd⟩ := id hl
  obtain ⟨⟨cls2, dd2, data2, sl2⟩, ho2, hc2, n2, hd2⟩ := id hb
  simp only at hc hd hc2 hd2
  subst hc hd hc2 hd2
  exact richCompare_meets_room (op := .Lt) ⟨_, ho, rfl⟩ ⟨_, ho2, rfl⟩ PySem.F.slot_tuple_lt PySem.F.entry_tuple_lt (PySem.F.args_tuple_lt_2 _ _) (tuple_lt_ints l b items items2 n n2 dd dd2 sl sl2 ns ms hi hj)
    ⟨ho, ho2, show Value.bool (lexLt ns ms) ≠ Value.notImplemented ∧ Q (.bool (lexLt ns ms)) s from ⟨(fun x => nomatch x), h⟩⟩ hu

/-- t + u, t not empty -/
theorem cat_tup {t b : Addr} {vs ws : List Value} {Q : Value → Shared → Prop} (ht : IsTup s.heap t vs.toArray) (hb : IsTup s.heap b ws.toArray) (hv : vs ≠ [])
    (h1 : ws = [] → Q (.ref t) s) (h2 : ws ≠ [] → Q (.ref s.heap.objs.size) { s with heap := s.heap.push { cls := .type "tuple", data := .seq (vs ++ ws).toArray } })
    (hsz : vs.length + ws.length ≤ sizeLine) : wpAny (model prog w) A (binaryOp .Add (.ref t) (.ref b)) Q E s := by
  obtain ⟨⟨cls, dd, data, sl⟩, ho, hc, n, hd⟩ := id ht
  obtain ⟨⟨cls2, dd2, data2, sl2⟩, ho2, hc2, n2, hd2⟩ := id hb
  simp only at hc hd hc2 hd2
  subst hc hd hc2 hd2
  have e : vs.toArray ++ ws.toArray = (vs ++ ws).toArray := by simp
  by_cases hw : ws = []
  · exact concat_meets ⟨_, ho, rfl⟩ ⟨_, ho2, rfl⟩ noFill_tuple_add seq_tuple_add PySem.F.slot_tuple_add PySem.F.entry_tuple_add (PySem.F.args_tuple_add_2 _ _)
      (tuple_addW1 t b vs.toArray ws.toArray n n2 dd dd2 sl sl2 (by simpa using hv) (by simp [hw])) ⟨ho, ho2, h1 hw⟩
  · refine concat_meets ⟨_, ho, rfl⟩ ⟨_, ho2, rfl⟩ noFill_tuple_add seq_tuple_add PySem.F.slot_tuple_add PySem.F.entry_tuple_add (PySem.F.args_tuple_add_2 _ _)
      (tuple_addW2 t b vs.toArray ws.toArray n n2 dd dd2 sl sl2 (by simpa using hv) (by simpa using hw) (by rw [List.size_toArray, List.size_toArray]; exact hsz)) ⟨ho, ho2, ?_⟩
    rw [e]
    exact h2 hw

/-! ### t[a:b], not the whole -/
/-- a slice's bound as a place among n (d where it is left out) -/
def sIx (n d : Nat) : Option Int → Nat
  | none => d
  | some v => if v < 0 then (v + (n : Int)).toNat else min v.toNat n
theorem sIx_none (n d : Nat) : sIx n d none = d := rfl
theorem sIx_nat (n d k : Nat) : sIx n d (some (k : Int)) = min k n := by
  show (if (k : Int) < 0 then ((k : Int) + (n : Int)).toNat else min (k : Int).toNat n) = min k n
  rw [if_neg (by omega), Int.toNat_natCast]
theorem sIx_le (n d : Nat) (hd : d ≤ n) (o : Option Int) : sIx n d o ≤ n := by
  cases o with
  | none => exact hd
  | some v =>
    show (if v < 0 then (v + (n : Int)).toNat else min v.toNat n) ≤ n
    by_cases hv : v < 0
    · rw [if_pos hv]; omega
    · rw [if_neg hv]; exact Nat.min_le_right _ _
theorem clip_eq (v : Int) (n d : Nat) : (if v < 0 then max (v + (n : Int)) 0 else min v (n : Int)) = ((sIx n d (some v) : Nat) : Int) := by
  show (if v < 0 then max (v + (n : Int)) 0 else min v (n : Int)) = (((if v < 0 then (v + (n : Int)).toNat else min v.toNat n) : Nat) : Int)
  by_cases hv : v < 0
  · simp only [if_pos hv]; omega
  · simp only [if_neg hv]; omega
theorem adjust_gen (lo hi : Option Int) (n : Nat) : Builtin.Slice.sliceAdjust lo hi 1 (n : Int) = (((sIx n 0 lo : Nat) : Int), ((sIx n n hi : Nat) : Int)) := by
  have h1 : ¬ ((1 : Int) < 0) := by omega
  unfold Builtin.Slice.sliceAdjust
  simp only [h1, if_false]
  refine Prod.ext ?_ ?_
  · cases lo with
    | none => rfl
    | some v => exact clip_eq v n 0
  · cases hi with
    | none => rfl
    | some v => exact clip_eq v n n
theorem places_gen (i j : Nat) : Builtin.Slice.slicePlaces (i : Int) (j : Int) 1 = j - i := by
  unfold Builtin.Slice.slicePlaces
  have h1 : (1 : Int) > 0 := by omega
  simp only [h1, if_true, Int.ediv_one]
  split <;> omega
theorem slicePart_ {v : Value} {o : Option Int} {Q : Option Int → Shared → Prop} (p : IsPart v o) (h : Q o s) : wpAny (model prog w) A (Builtin.Slice.slicePartIndex v) Q E s := by
  cases p with
  | none => exact slicePart_none h
  | int i t => exact slicePart_int h
theorem sliceApplied_gen {sl : Addr} {vl vu : Value} {lo hi : Option Int} {n : Nat} {Q : Int × Int × Nat → Shared → Prop} (hs : s.heap.IsSliceOf sl vl vu .none) (pl : IsPart vl lo) (pu : IsPart vu hi)
    (h : Q (((sIx n 0 lo : Nat) : Int), 1, sIx n n hi - sIx n 0 lo) s) : wpAny (model prog w) A (Builtin.Slice.sliceApplied (.ref sl) (pure (n : Int))) Q E s := by
  obtain ⟨os, hos, hcs, hds⟩ := id hs
  unfold Builtin.Slice.sliceApplied Builtin.Slice.sliceFields
  refine wpAny_bind (wpAny_bind (wpAny_field hos hds (x := vl) rfl (wpAny_bind (wpAny_field hos hds (x := vu) rfl (wpAny_bind (wpAny_field hos hds (x := .none) rfl (wpAny_pure ?_)))))))
  refine wpAny_bind (slicePart_none ?_)
  show wpAny _ _ (if ((1 : Int) == 0) = true then _ else _) _ _ s
  rw [if_neg (by decide)]
  refine wpAny_bind (slicePart_ pl (wpAny_bind (slicePart_ pu (wpAny_bind (wpAny_pure ?_)))))
  show wpAny _ _ (match Builtin.Slice.sliceAdjust lo hi 1 (n : Int) with | (lo, hi) => pure (lo, (1 : Int), Builtin.Slice.slicePlaces lo hi 1)) _ _ s
  rw [adjust_gen lo hi n]
  show wpAny _ _ (pure (((sIx n 0 lo : Nat) : Int), (1 : Int), Builtin.Slice.slicePlaces ((sIx n 0 lo : Nat) : Int) ((sIx n n hi : Nat) : Int) 1)) _ _ s
  rw [places_gen]
  exact wpAny_pure h
theorem pick_gen (xs : Array Value) (i k : Nat) : ((List.range k).filterMap fun (m : Nat) => xs[((i : Int) + (m : Int) * 1).toNat]?).toArray = ((xs.toList.drop i).take k).toArray := by
  have e : (fun (m : Nat) => xs[((i : Int) + (m : Int) * 1).toNat]?) = fun m => xs[i + m]? := by
    funext m
    have : ((i : Int) + (m : Int) * 1).toNat = i + m := by omega
    rw [this]
  rw [e]
  have := pick_run xs i k
  rw [List.filterMap_map] at this
  have e2 : ((fun x => xs[x]?) ∘ fun x => i + x) = fun m => xs[i + m]? := rfl
  rw [e2] at this
  rw [this]

theorem getItem_tuple_cut {t sl : Addr} {items : Array Value} {vl vu : Value} {lo hi : Option Int} {Q : Value → Shared → Prop} (ht : IsTup s.heap t items) (hs : s.heap.IsSliceOf sl vl vu .none) (pl : IsPart vl lo) (pu : IsPart vu hi)
    (hw : ¬ (sIx items.size 0 lo = 0 ∧ sIx items.size items.size hi = items.size))
    (h : Q (.ref s.heap.objs.size) { s with heap := s.heap.push { cls := .type "tuple", data := .seq ((items.toList.drop (sIx items.size 0 lo)).take (sIx items.size items.size hi - sIx items.size 0 lo)).toArray } })
    (hsz : items.size ≤ sizeLine) : wpAny (model prog w) A (getItem (.ref t) (.ref sl)) Q E s := by
  have htake : sizeOk (.seq ((items.toList.drop (sIx items.size 0 lo)).take (sIx items.size items.size hi - sIx items.size 0 lo)).toArray) := by
    show ((items.toList.drop (sIx items.size 0 lo)).take (sIx items.size items.size hi - sIx items.size 0 lo)).toArray.size ≤ sizeLine
    rw [List.size_toArray, List.length_take, List.length_drop, Array.length_toList]
    omega
  have hj : sIx items.size items.size hi ≤ items.size := sIx_le _ _ (Nat.le_refl _) hi
  obtain ⟨os, hos, hcs, hds⟩ := id hs
  have hTs : s.TypeIs (.ref sl) "slice" := ⟨os, hos, hcs⟩
  unfold getItem
  try with_reducible refine wpAny_holding ?_
  first | refine wpAny_bind (wpAny_pure ?_) | skip
  refine wpAny_bind (wpAny_sequenceKey ht.typeIs (by decide) ?_)
  refine wpAny_bind (wpAny_callSpecial?_slot (name := Str.ofString "__getitem__") ht.typeIs PyProof.Rows.slot_tuple_getitem
    (wpAny_call_entry PyProof.Rows.slot_tuple_getitem ht.typeIs entry_tuple_getitem ?_ (args_tuple_getitem _ _)))
  show wpAny _ _ (Builtin.Tuple.tupleItemsOf (.ref t) >>= _) _ _ s
  refine wpAny_bind (tupleItemsOf_ ht ?_)
  refine wpAny_bind (wpAny_typeOf hTs ?_)
  rw [if_pos (by decide)]
  refine wpAny_bind (sliceApplied_gen hs pl pu ?_)
  have hno : ¬ ((((sIx items.size 0 lo : Nat) : Int) == 0 && (1 : Int) == 1 && (sIx items.size items.size hi - sIx items.size 0 lo) == items.size) = true) := by
    intro q
    rw [Bool.and_eq_true, Bool.and_eq_true] at q
    have q1 : ((sIx items.size 0 lo : Nat) : Int) = 0 := eq_of_beq q.1.1
    have q2 : sIx items.size items.size hi - sIx items.size 0 lo = items.size := eq_of_beq q.2
    exact hw ⟨by omega, by omega⟩
  show wpAny _ _ (if (((sIx items.size 0 lo : Nat) : Int) == 0 && (1 : Int) == 1 && (sIx items.size items.size hi - sIx items.size 0 lo) == items.size) = true then _ else _) _ _ s
  rw [if_neg hno, pick_gen]
  first
    | exact wpAny_bind (m := Builtin.Tuple.tupleExact _) (wpAny_newObj_type (wpAny_pure ⟨_, rfl, wpAny_pure h⟩) htake)
    | exact wpAny_bind (m := Builtin.Tuple.tupleExact _) (wpAny_newObj_type (wpAny_bind (wpAny_pure (wpAny_pure ⟨_, rfl, wpAny_pure h⟩))) htake)
    | exact wpAny_bind (wpAny_bind (m := Builtin.Tuple.tupleExact _) (wpAny_newObj_type (wpAny_pure (wpAny_pure ⟨_, rfl, wpAny_pure h⟩)) htake))
    | exact wpAny_bind (wpAny_bind (m := Builtin.Tuple.tupleExact _) (wpAny_newObj_type (wpAny_pure ⟨_, rfl, wpAny_pure h⟩) htake))
end
end HT

namespace L2
open PySem PySem.Spec PyProof.Rows

/-! ### the parts of a slice -/
abbrev TO := St → Hp → (Option Int → Hp → Prop) → Prop
/-- a slice's part (left out, or an int) -/
def PO (X : Cx) (e : Option Expr) (t : TO) : Prop :=
  ∀ (pins : List (Addr × Obj)) (s : Shared) (σ : St) (H : Hp) (Q : Option Int → Hp → Prop), Inv X pins σ H s → t σ H Q →
    wpAny (model X.prog X.w) X.A (evalPart e X.env) (fun u s' => ∃ o H', Inv X pins σ H' s' ∧ IsPart u o ∧ Q o H') X.xe s
def tNoPart : TO := fun _ H Q => Q none H
def tPart (t : TE) : TO := fun σ H Q => t σ H fun x H1 => ∃ i, x = .int i ∧ Q (some i) H1

theorem intsAre_of {ns : List Int} : ∀ {us : List Value}, Vals (ns.map V.int) us → IntsAre us ns := by
  induction ns with
  | nil => intro us r; rw [List.map_nil] at r; cases r; exact .nil
  | cons n ns ih =>
    intro us r
    rw [List.map_cons] at r
    cases r with
    | cons r1 r2 =>
      obtain ⟨t, e⟩ := r1
      subst e
      exact .cons n t (ih r2)

section
variable {X : Cx} {e : Expr} {te : TE} {lo hi : Option Expr} {tl th : TO} {pos p2 : Pos}

theorem po_none : PO X none tNoPart := by
  intro pins s σ H Q I h
  rw [evalPart_none]
  exact wpAny_pure ⟨none, H, I, .none, h⟩
theorem po_some (h : PE X e te) : PO X (some e) (tPart te) := by
  intro pins s σ H Q I hw
  rw [evalPart_some]
  refine thn (h pins s σ H _ I hw) fun u s1 ⟨x, H1, I1, r1, q1⟩ => ?_
  obtain ⟨i, rfl, q⟩ := q1
  obtain ⟨t, rfl⟩ := r1
  exact ⟨some i, H1, I1, .int i t, q⟩

/-- what a slice of a value is, by values: the slice object stands at sl -/
def SlR (X : Cx) (r : V → Option Int → Option Int → Hp → VK → Prop) : Prop :=
  ∀ (pins : List (Addr × Obj)) (s : Shared) (σ : St) (H : Hp) (x : V) (v vl vu : Value) (lo hi : Option Int) (sl : Addr) (Q : VK), Inv X pins σ H s → RelV x v → s.heap.IsSliceOf sl vl vu .none → IsPart vl lo → IsPart vu hi → r x lo hi H Q →
    ∃ T id, typeLookup (.type T) "__getitem__" = pure (some (.builtin id)) ∧ s.TypeIs v T ∧ wpAny (model X.prog X.w) X.A (getItem v (.ref sl)) (EP X pins σ Q) X.xe s
theorem SlR.or {r r' : V → Option Int → Option Int → Hp → VK → Prop} (h : SlR X r) (h' : SlR X r') : SlR X (fun x lo hi H Q => r x lo hi H Q ∨ r' x lo hi H Q) := by
  intro pins s σ H x v vl vu lo hi sl Q I rx hs pl pu q
  rcases q with q | q
  · exact h pins s σ H x v vl vu lo hi sl Q I rx hs pl pu q
  · exact h' pins s σ H x v vl vu lo hi sl Q I rx hs pl pu q
def tSl (r : V → Option Int → Option Int → Hp → VK → Prop) (te : TE) (tl th : TO) : TE := fun σ H Q => te σ H fun x H1 => tl σ H1 fun l H2 => th σ H2 fun u H3 => r x l u H3 Q
/-- a[lo:hi], any a -/
theorem pe_slice {r : V → Option Int → Option Int → Hp → VK → Prop} (hr : SlR X r) (he : PE X e te) (hl : PO X lo tl) (hu : PO X hi th) : PE X (.Subscript e (.Slice lo hi none p2) pos) (tSl r te tl th) := by
  intro pins s σ H Q I h
  refine Subscript_ (thn (he pins s σ H _ I h) fun v s1 ⟨x, H1, I1, r1, q1⟩ => ?_)
  refine wpAny_Slice (thn (hl pins s1 σ H1 _ I1 q1) fun vl s2 ⟨l, H2, I2, pl, q2⟩ => thn (hu pins s2 σ H2 _ I2 q2) fun vu s3 ⟨u, H3, I3, pu, q3⟩ => ?_)
  rw [evalPart_none]
  refine wpAny_pure ?_
  have I4 : Inv X pins σ H3 { s3 with heap := s3.heap.push { cls := .type "slice", data := .fields #[vl, vu, .none] } } := I3.kept (t' := s3.toks) fun b ob q => Heap.get?_push_of_some _ q
  obtain ⟨T, id, hT, ht, hg⟩ := hr pins { s3 with heap := s3.heap.push { cls := .type "slice", data := .fields #[vl, vu, .none] } } σ H3 x v vl vu l u s3.heap.objs.size Q I4 r1 (Heap.IsSliceOf.new ..) pl pu q3
  show wpAny (model X.prog X.w) X.A (subscriptTail e (.Slice lo hi none p2) v (.ref s3.heap.objs.size)) (EP X pins σ Q) X.xe { s3 with heap := s3.heap.push { cls := .type "slice", data := .fields #[vl, vu, .none] } }
  exact tail_any (ops := [.ref s3.heap.objs.size, v]) ht hT hg (by with_unfolding_all rfl)

/-- the items of xs[lo:hi] -/
def cutV (xs : List V) (lo hi : Option Int) : List V := (xs.drop (HT.sIx xs.length 0 lo)).take (HT.sIx xs.length xs.length hi - HT.sIx xs.length 0 lo)
theorem cutV_length (xs : List V) (lo hi : Option Int) : (cutV xs lo hi).length ≤ xs.length := by
  unfold cutV
  rw [List.length_take, List.length_drop]
  omega
/-- t[lo:hi], not the whole of it (the whole would be t itself) -/
def rSlT (K : PySem.W.Frag) : V → Option Int → Option Int → Hp → VK → Prop := fun x lo hi H Q => ∃ a xs, x = .ref a ∧ SqT K H a xs ∧
  ¬ (HT.sIx xs.length 0 lo = 0 ∧ HT.sIx xs.length xs.length hi = xs.length) ∧ ∀ p, H p = none → Q (.ref p) (upd H p (.tup (cutV xs lo hi)))
theorem sl_tup : SlR X (rSlT X.K) := by
  intro pins s σ H x v vl vu lo hi sl Q I rx hs pl pu h
  obtain ⟨a, xs, rfl, hx, hw, q⟩ := h
  cases rx
  obtain ⟨its, r, ht, hz⟩ := I.tuple hx
  have hlen : its.toArray.size = xs.length := by rw [List.size_toArray]; exact r.length.symm
  refine ⟨"tuple", _, PyProof.Rows.slot_tuple_getitem.lookup, ht.typeIs, ?_⟩
  refine HT.getItem_tuple_cut ht hs pl pu (by rw [hlen]; exact hw) ?_ (by rw [hlen]; exact hz)
  rw [hlen]
  refine ⟨.ref s.heap.objs.size, _, I.laid (t' := s.toks) (o := .tup (cutV xs lo hi)) (fun b ob q => Heap.get?_push_of_some _ q) (Nat.le_refl _) ?_, rfl, q _ (I.hok.fresh (Nat.le_refl _))⟩
  exact ⟨Nat.le_trans (cutV_length xs lo hi) hz, _, (r.drop (HT.sIx xs.length 0 lo)).take (HT.sIx xs.length xs.length hi - HT.sIx xs.length 0 lo), IsTup.new _ _⟩

/-! ### t < u, t + u -/
def rLtT (K : PySem.W.Frag) : R2 := fun x y H Q => ∃ a b ns ms, x = .ref a ∧ y = .ref b ∧ SqT K H a (ns.map V.int) ∧ SqT K H b (ms.map V.int) ∧ Q (.bl (HT.lexLt ns ms)) H
theorem op_ltT (hu : X.A.units < cLine) : OpR X (compareOp .Lt) (rLtT X.K) := by
  intro pins s σ H x y v u Q I rx ry h
  obtain ⟨a, b, ns, ms, rfl, rfl, ha, hb, q⟩ := h
  cases rx
  cases ry
  obtain ⟨its, r1, p1, _⟩ := I.tuple ha
  obtain ⟨its2, r2, p2, _⟩ := I.tuple hb
  have i1 : IntsAre its.toArray.toList ns := intsAre_of r1
  have i2 : IntsAre its2.toArray.toList ms := intsAre_of r2
  exact HT.lt_tupInts p1 p2 i1 i2 hu ⟨.bl (HT.lexLt ns ms), H, I, rfl, q⟩
/-- t + u, t not empty: u empty gives t itself -/
def rCatT (K : PySem.W.Frag) : R2 := fun x y H Q => ∃ a b xs ys, x = .ref a ∧ y = .ref b ∧ SqT K H a xs ∧ SqT K H b ys ∧ xs ≠ [] ∧ xs.length + ys.length ≤ sizeLine ∧
  (ys = [] → Q (.ref a) H) ∧ (ys ≠ [] → ∀ p, H p = none → Q (.ref p) (upd H p (.tup (xs ++ ys))))
theorem Vals.nil_iff {xs : List V} {us : List Value} (r : Vals xs us) : us = [] ↔ xs = [] := by
  cases r with
  | nil => simp
  | cons _ _ => simp
theorem op_catT : OpR X (binaryOp .Add) (rCatT X.K) := by
  intro pins s σ H x y v u Q I rx ry h
  obtain ⟨a, b, xs, ys, rfl, rfl, ha, hb, hx, hz, q1, q2⟩ := h
  cases rx
  cases ry
  obtain ⟨its, r1, p1, _⟩ := I.tuple ha
  obtain ⟨its2, r2, p2, _⟩ := I.tuple hb
  refine HT.cat_tup p1 p2 (fun z => hx (r1.nil_iff.mp z)) (fun z => ⟨.ref a, H, I, rfl, q1 (r2.nil_iff.mp z)⟩) (fun z => ?_) (by rw [← r1.length, ← r2.length]; exact hz)
  refine ⟨.ref s.heap.objs.size, _, I.laid (t' := s.toks) (o := .tup (xs ++ ys)) (fun b ob q => Heap.get?_push_of_some _ q) (Nat.le_refl _) ?_, rfl, q2 (fun w => z (r2.nil_iff.mpr w)) _ (I.hok.fresh (Nat.le_refl _))⟩
  exact ⟨by rw [List.length_append]; exact hz, _, r1.append r2, IsTup.new _ _⟩
/-- tuple(t) -/
theorem call_tupleT : CallR X (.type "tuple") (fun xs H Q => ∃ a ys, xs = [.ref a] ∧ SqT X.K H a ys ∧ Q (.ref a) H) := by
  intro pins s σ H xs us Q I r h
  obtain ⟨a, ys, rfl, ha, q⟩ := h
  obtain ⟨u, rfl, ru⟩ := vals1 r
  cases ru
  obtain ⟨its, _, p1, _⟩ := I.tuple ha
  exact call_tuple_same (items := its.toArray) p1 ⟨.ref a, H, I, rfl, q⟩
end
end L2

namespace L2
open PySem PySem.Spec PyProof.Rows

/-! ### places -/
/-- the place that an index of any sign means -/
def ixN (n : Nat) (i : Int) : Option Nat := if 0 ≤ i then (if i < n then some i.toNat else none) else if -(n : Int) ≤ i then some (i + n).toNat else none
def atI {α : Type} (xs : List α) (i : Int) : Option α := (ixN xs.length i).bind fun j => xs[j]?
theorem ixN_seq {n : Nat} {i : Int} {j : Nat} (h : ixN n i = some j) : seqIndex? i n = some j ∧ j < n ∧ -(n : Int) ≤ i ∧ i < n := by
  unfold ixN at h
  by_cases h0 : 0 ≤ i
  · rw [if_pos h0] at h
    by_cases h1 : i < n
    · rw [if_pos h1] at h
      have e : i.toNat = j := Option.some.inj h
      exact ⟨by rw [seqIndex_of h0 h1, e], by omega, by omega, h1⟩
    · rw [if_neg h1] at h; cases h
  · rw [if_neg h0] at h
    by_cases h1 : -(n : Int) ≤ i
    · rw [if_pos h1] at h
      have e : (i + n).toNat = j := Option.some.inj h
      exact ⟨by rw [seqIndex_neg (by omega) h1, e], by omega, h1, by omega⟩
    · rw [if_neg h1] at h; cases h
theorem atI_get {α : Type} {xs : List α} {i : Int} {v : α} (h : atI xs i = some v) : ∃ j, seqIndex? i xs.length = some j ∧ xs[j]? = some v ∧ j < xs.length ∧ -(xs.length : Int) ≤ i ∧ i < xs.length := by
  unfold atI at h
  cases e : ixN xs.length i with
  | none => rw [e] at h; cases h
  | some j =>
    rw [e] at h
    obtain ⟨h1, h2, h3, h4⟩ := ixN_seq e
    exact ⟨j, h1, h, h2, h3, h4⟩
theorem atI_nat {α : Type} {xs : List α} {j : Nat} {v : α} (h : xs[j]? = some v) : atI xs (j : Int) = some v := by
  have hj : j < xs.length := (List.getElem?_eq_some_iff.mp h).1
  have e : ixN xs.length (j : Int) = some j := by
    unfold ixN
    rw [if_pos (by omega), if_pos (by omega)]; simp
  unfold atI; rw [e]; exact h
theorem atI_last {α : Type} (xs : List α) (v : α) : atI (xs ++ [v]) (-1) = some v := by
  have hl : (xs ++ [v]).length = xs.length + 1 := by simp
  have e : ixN (xs ++ [v]).length (-1) = some xs.length := by
    unfold ixN
    rw [hl, if_neg (by decide), if_pos (by omega)]
    congr 1
    omega
  unfold atI
  rw [e]
  show (xs ++ [v])[xs.length]? = some v
  simp

/-! ### what may be subscripted -/
/-- what stands as an index of a plain subscript -/
def PlainIx (b : Expr) : Prop := ∀ o i, subscripted b false o i = operate [o, i] (getItem o i)
/-- a subscript by values -/
def IxR (X : Cx) (r : R2) : Prop :=
  ∀ (value slice : Expr) (pins : List (Addr × Obj)) (s : Shared) (σ : St) (H : Hp) (x y : V) (v u : Value) (Q : VK), Inv X pins σ H s → RelV x v → RelV y u → r x y H Q →
    subscripted slice false v u = operate [v, u] (getItem v u) → wpAny (model X.prog X.w) X.A (subscriptTail value slice v u) (EP X pins σ Q) X.xe s
/-- a call of a builtin's method by values: the receiver, the arguments -/
def MtR (X : Cx) (id : String) (r : V → List V → Hp → VK → Prop) : Prop :=
  ∀ (pins : List (Addr × Obj)) (s : Shared) (σ : St) (H : Hp) (x : V) (xs : List V) (v : Value) (us : List Value) (Q : VK), Inv X pins σ H s → RelV x v → Vals xs us → r x xs H Q →
    wpAny (model X.prog X.w) X.A (call (.builtin id) (v :: us)) (EP X pins σ Q) X.xe s
section
variable {X : Cx} {a b : Expr} {ta tb : TE} {pos : Pos}
theorem IxR.or {r r' : R2} (h : IxR X r) (h' : IxR X r') : IxR X (fun x y H Q => r x y H Q ∨ r' x y H Q) := by
  intro value slice pins s σ H x y v u Q I rx ry q hs
  rcases q with q | q
  · exact h value slice pins s σ H x y v u Q I rx ry q hs
  · exact h' value slice pins s σ H x y v u Q I rx ry q hs
theorem MtR.or {id : String} {r r' : V → List V → Hp → VK → Prop} (h : MtR X id r) (h' : MtR X id r') : MtR X id (fun x xs H Q => r x xs H Q ∨ r' x xs H Q) := by
  intro pins s σ H x xs v us Q I rx rs q
  rcases q with q | q
  · exact h pins s σ H x xs v us Q I rx rs q
  · exact h' pins s σ H x xs v us Q I rx rs q
/-- a[b] -/
theorem pe_ix {r : R2} (hr : IxR X r) (ha : PE X a ta) (hb : PE X b tb) (hs : PlainIx b) : PE X (.Subscript a b pos) (tOp r ta tb) := by
  intro pins s σ H Q I h
  exact Subscript_ (binT ha hb I h fun v u s2 x y H2 I2 rx ry q => hr a b pins s2 σ H2 x y v u Q I2 rx ry q (hs _ _))

def rIxL (K : PySem.W.Frag) : R2 := fun x y H Q => ∃ p xs i v, x = .ref p ∧ y = .int i ∧ SqL K H p xs ∧ atI xs i = some v ∧ Q v H
def rIxT (K : PySem.W.Frag) : R2 := fun x y H Q => ∃ p xs i v, x = .ref p ∧ y = .int i ∧ SqT K H p xs ∧ atI xs i = some v ∧ Q v H
def rIxS : R2 := fun x y H Q => ∃ z i c, x = .str z ∧ y = .int i ∧ z.length ≤ sizeLine ∧ atI z.cps.toList i = some c ∧ Q (.str ⟨#[c]⟩) H
theorem ix_list : IxR X (rIxL X.K) := by
  intro value slice pins s σ H x y v u Q I rx ry h hs
  obtain ⟨p, xs, i, z, rfl, rfl, hq, he, q⟩ := h
  cases rx
  obtain ⟨t, rfl⟩ := ry
  obtain ⟨its, r, pl, hz⟩ := I.list hq
  obtain ⟨j, h1, h2, h3, h4, h5⟩ := atI_get he
  obtain ⟨w, ew, rw'⟩ := r.get h2
  have hl := r.length
  have hn := line63
  have fin : EP X pins σ Q w s := ⟨z, H, I, rw', q⟩
  by_cases h0 : 0 ≤ i
  · have hj : i.toNat = j := by
      rw [seqIndex_of h0 h5] at h1
      exact Option.some.inj h1
    exact item_listR pl.isList h0 (by omega) (by rw [hj]; simpa using ew) fin hs
  · have hj : (i + (its.toArray.size : Int)).toNat = j := by
      rw [seqIndex_neg (by omega) h4] at h1
      rw [List.size_toArray, ← hl]
      exact Option.some.inj h1
    exact subscriptTail_builtinR (x := w) pl.isList.typeIs slot_list_getitem.lookup
      (wpAny_getItem_list_neg (Q := fun r s' => r = w ∧ EP X pins σ Q r s') pl.isList (by omega) (by rw [List.size_toArray] <;> omega) (by omega) (by rw [hj]; simpa using ew) ⟨rfl, fin⟩) hs
theorem ix_tup : IxR X (rIxT X.K) := by
  intro value slice pins s σ H x y v u Q I rx ry h hs
  obtain ⟨p, xs, i, z, rfl, rfl, hq, he, q⟩ := h
  cases rx
  obtain ⟨t, rfl⟩ := ry
  obtain ⟨its, r, pl, hz⟩ := I.tuple hq
  obtain ⟨j, h1, h2, h3, h4, h5⟩ := atI_get he
  obtain ⟨w, ew, rw'⟩ := r.get h2
  have hl := r.length
  have hn := line63
  have fin : EP X pins σ Q w s := ⟨z, H, I, rw', q⟩
  exact subscriptTail_builtinR (x := w) pl.typeIs slot_tuple_getitem.lookup
    (getItem_tuple (j := j) (Q := fun r s' => r = w ∧ EP X pins σ Q r s') pl (by omega) (by omega) (by rw [List.size_toArray, ← hl]; exact h1) (by simpa using ew) ⟨rfl, fin⟩) hs
theorem ix_str : IxR X rIxS := by
  intro value slice pins s σ H x y v u Q I rx ry h hs
  obtain ⟨z, i, c, rfl, rfl, hz, he, q⟩ := h
  obtain ⟨t, rfl⟩ := rx
  obtain ⟨t', rfl⟩ := ry
  obtain ⟨j, h1, h2, h3, h4, h5⟩ := atI_get he
  have hl : z.cps.toList.length = z.length := by simp [Str.length]
  rw [hl] at h1 h4 h5
  have hn := line63
  exact tail_any (typeIs_str s z t) slot_str_getitem.lookup (getItem_str (c := c) (by
    have e1 : decide (i < -(2 ^ 63 : Int)) = false := decide_eq_false (by omega)
    have e2 : decide (i ≥ 2 ^ 63) = false := decide_eq_false (by omega)
    rw [e1, e2, Bool.or_false]) (by rw [h1]; simpa using h2) ⟨.str ⟨#[c]⟩, H, I.tok _, ⟨_, rfl⟩, q⟩) hs
/-- list, tuple or str -/
def rIx (K : PySem.W.Frag) : R2 := fun x y H Q => rIxL K x y H Q ∨ rIxT K x y H Q ∨ rIxS x y H Q
theorem ix_seq : IxR X (rIx X.K) := ix_list.or (ix_tup.or ix_str)

/-! ### xs[i] = v, any sign -/
/-- the list's object behind a store -/
theorem mapSeq_set (its : List Value) (n j : Nat) (u : Value) : Obj.mapSeq (·.setIfInBounds j u) { cls := .type "list", data := .seq its.toArray n } = { cls := .type "list", data := .seq (its.set j u).toArray n } := by
  simp [Obj.mapSeq]
theorem Inv.lst {pins : List (Addr × Obj)} {σ : St} {H : Hp} {s : Shared} {p : Addr} {xs : List V} (I : Inv X pins σ H s) (h : H p = some (.lst xs)) :
    ∃ (its : List Value) (n : Nat), Vals xs its ∧ s.heap.get? p = some { cls := .type "list", data := .seq its.toArray n } ∧ xs.length ≤ sizeLine := by
  obtain ⟨z, its, n, r, e⟩ := I.hok p _ h
  exact ⟨its, n, r, e, z⟩
/-- the list at p is written by an update of its object -/
theorem Inv.lstUpd {pins : List (Addr × Obj)} {σ : St} {H : Hp} {s : Shared} {p : Addr} {xs ys : List V} {its its' : List Value} {n n' : Nat} {f : Obj → Obj} (I : Inv X pins σ H s) (h : H p = some (.lst xs))
    (ho : s.heap.get? p = some { cls := .type "list", data := .seq its.toArray n }) (hf : f { cls := .type "list", data := .seq its.toArray n } = { cls := .type "list", data := .seq its'.toArray n' }) (r : Vals ys its') (hz : ys.length ≤ sizeLine) (t : Nat) :
    Inv X pins σ (upd H p (.lst ys)) { s with heap := s.heap.update p f, toks := t } := by
  have e : (s.heap.update p f).get? p = some { cls := .type "list", data := .seq its'.toArray n' } := by
    rw [Heap.get?_update_self f ho (by rw [hf] <;> rfl), hf]
  refine I.write (x := p) (e := p) (by rw [h]; trivial) (.inl rfl) (fun b u hb q => (Heap.get?_update_other _ _ (Ne.symm hb)).trans q) ⟨_, e⟩ ?_
  exact ⟨hz, its', n', r, e⟩
def rSetL : V → V → V → Hp → (Hp → Prop) → Prop := fun o i v H Q => ∃ p xs k j, o = .ref p ∧ i = .int k ∧ H p = some (.lst xs) ∧ ixN xs.length k = some j ∧ Q (upd H p (.lst (xs.set j v)))
theorem set_list : PSet X rSetL := by
  intro pins s σ H o i v ov iv u Q I ro ri rv h
  obtain ⟨p, xs, k, j, rfl, rfl, hp, hj, q⟩ := h
  cases ro
  obtain ⟨t, rfl⟩ := ri
  obtain ⟨its, n, r, ho, hz⟩ := I.lst hp
  obtain ⟨h1, h2, h3, h4⟩ := ixN_seq hj
  have hl := r.length
  have hn := line63
  have I' : Inv X pins σ (upd H p (.lst (xs.set j v))) { s with heap := s.heap.update p (Obj.mapSeq (·.setIfInBounds j u)) } :=
    I.lstUpd hp ho (mapSeq_set its n j u) (r.set rv j) (by rw [List.length_set]; exact hz) s.toks
  by_cases h0 : 0 ≤ k
  · have hk : k.toNat = j := by
      rw [seqIndex_of h0 h4] at h1
      exact Option.some.inj h1
    exact PySem.W.ki_setAt ho h0 (by omega) (by rw [List.size_toArray, ← hl]; exact h4) (by rw [hk]; exact ⟨_, I', q⟩)
  · have hk : (k + (its.toArray.size : Int)).toNat = j := by
      rw [seqIndex_neg (by omega) h3] at h1
      rw [List.size_toArray, ← hl]
      exact Option.some.inj h1
    exact PySem.W.ki_setBack ho (by omega) (by rw [List.size_toArray, ← hl]; exact h3) (by omega) (by rw [hk]; exact ⟨_, I', q⟩)

/-! ### slices -/
theorem slice_bounds (lo hi : Option Int) (n : Nat) : (sliceBounds lo hi none n).1 = ((HT.sIx n 0 lo : Nat) : Int) ∧ (sliceBounds lo hi none n).2.1 = ((HT.sIx n n hi : Nat) : Int) ∧ (sliceBounds lo hi none n).2.2 = 1 := by
  refine ⟨?_, ?_, rfl⟩
  · cases lo with
    | none => simp [sliceBounds, HT.sIx]
    | some i =>
      simp only [sliceBounds, HT.sIx, Option.getD_none, show (1 : Int) > 0 by decide, if_true]
      by_cases h : i < 0
      · simp only [h, if_true] <;> omega
      · simp only [h, if_false] <;> omega
  · cases hi with
    | none => simp [sliceBounds, HT.sIx]
    | some i =>
      simp only [sliceBounds, HT.sIx, Option.getD_none, show (1 : Int) > 0 by decide, if_true]
      by_cases h : i < 0
      · simp only [h, if_true] <;> omega
      · simp only [h, if_false] <;> omega
theorem slicePick_cut (its : List Value) (lo hi : Option Int) : slicePick its.toArray lo hi none = ((its.drop (HT.sIx its.length 0 lo)).take (HT.sIx its.length its.length hi - HT.sIx its.length 0 lo)).toArray := by
  obtain ⟨h1, h2, h3⟩ := slice_bounds lo hi its.toArray.size
  unfold slicePick
  rw [h1, h2, h3]
  simp only [sliceRange_one, pick_run, List.size_toArray] <;> rfl
/-- xs[lo:hi] of a list: a new list -/
def rSlL (K : PySem.W.Frag) : V → Option Int → Option Int → Hp → VK → Prop := fun x lo hi H Q => ∃ a xs, x = .ref a ∧ SqL K H a xs ∧ ∀ p, H p = none → Q (.ref p) (upd H p (.lst (cutV xs lo hi)))
theorem sl_list : SlR X (rSlL X.K) := by
  intro pins s σ H x v vl vu lo hi sl Q I rx hs pl pu h
  obtain ⟨a, xs, rfl, hx, q⟩ := h
  cases rx
  obtain ⟨its, r, ht, hz⟩ := I.list hx
  have hlen := r.length
  refine ⟨"list", _, slot_list_getitem.lookup, ht.isList.typeIs, ?_⟩
  refine wpAny_getItem_list_slice ht.isList hs pl pu .none (by simp) ?_ (by rw [List.size_toArray] <;> omega)
  rw [slicePick_cut, ← hlen]
  refine ⟨.ref s.heap.objs.size, _, I.laid (t' := s.toks) (o := .lst (cutV xs lo hi)) (fun b ob q => Heap.get?_push_of_some _ q) (Nat.le_refl _) ?_, rfl, q _ (I.hok.fresh (Nat.le_refl _))⟩
  exact ⟨Nat.le_trans (cutV_length xs lo hi) hz, _, 0, (r.drop (HT.sIx xs.length 0 lo)).take (HT.sIx xs.length xs.length hi - HT.sIx xs.length 0 lo), Heap.get?_push_size _ rfl⟩

/-! ### in, not in: flat items -/
def flatV : V → Bool
  | .non => true
  | .bl _ => true
  | .int _ => true
  | .str _ => true
  | _ => false
/-- == of flat values -/
def eqV : V → V → Bool
  | .non, .non => true
  | .bl a, .bl b => a == b
  | .bl a, .int b => (if a then 1 else 0) == b
  | .int a, .bl b => a == (if b then 1 else 0)
  | .int a, .int b => a == b
  | .str a, .str b => a == b
  | _, _ => false
theorem eqAt_V {A : Around} {s : Shared} {y x : V} {u v : Value} (ry : RelV y u) (rx : RelV x v) (fy : flatV y = true) (fx : flatV x = true) : SeqAt.EqAt A s u v (eqV y x) := by
  cases y with
  | non =>
    cases ry
    cases x with
    | non => cases rx; exact SeqAt.EqAt.same _
    | bl b => cases rx; exact SeqAt.EqAt.none_bool b
    | int b => obtain ⟨t, rfl⟩ := rx; exact SeqAt.EqAt.none_int b t
    | str b => obtain ⟨t, rfl⟩ := rx; exact SeqAt.EqAt.none_str b t
    | _ => exact absurd (show false = true from fx) Bool.false_ne_true
  | bl a =>
    cases ry
    cases x with
    | non => cases rx; exact SeqAt.EqAt.bool_none a
    | bl b => cases rx; exact SeqAt.EqAt.bool_bool a b
    | int b => obtain ⟨t, rfl⟩ := rx; exact SeqAt.EqAt.bool_int a b t
    | str b => obtain ⟨t, rfl⟩ := rx; exact SeqAt.EqAt.bool_str a b t
    | _ => exact absurd (show false = true from fx) Bool.false_ne_true
  | int a =>
    obtain ⟨t', rfl⟩ := ry
    cases x with
    | non => cases rx; exact SeqAt.EqAt.int_none a t'
    | bl b => cases rx; exact SeqAt.EqAt.int_bool a t' b
    | int b => obtain ⟨t, rfl⟩ := rx; exact SeqAt.EqAt.int_int a t' b t
    | str b => obtain ⟨t, rfl⟩ := rx; exact SeqAt.EqAt.int_str a t' b t
    | _ => exact absurd (show false = true from fx) Bool.false_ne_true
  | str a =>
    obtain ⟨t', rfl⟩ := ry
    cases x with
    | non => cases rx; exact SeqAt.EqAt.str_none a t'
    | bl b => cases rx; exact SeqAt.EqAt.str_bool a t' b
    | int b => obtain ⟨t, rfl⟩ := rx; exact SeqAt.EqAt.str_int a t' b t
    | str b => obtain ⟨t, rfl⟩ := rx; exact SeqAt.EqAt.str_str a t' b t
    | _ => exact absurd (show false = true from fx) Bool.false_ne_true
  | _ => exact absurd (show false = true from fy) Bool.false_ne_true
/-- the items' answers, read off the values (a value's own answer does not lean on its token) -/
def eqU (x : V) (u : Value) : Bool := match u with
  | .none => eqV .non x
  | .bool b => eqV (.bl b) x
  | .int i _ => eqV (.int i) x
  | .str z _ => eqV (.str z) x
  | _ => false
theorem eqU_of {x y : V} {u : Value} (r : RelV y u) (f : flatV y = true) : eqU x u = eqV y x := by
  cases y with
  | non => cases r; rfl
  | bl b => cases r; rfl
  | int i => obtain ⟨t, rfl⟩ := r; rfl
  | str z => obtain ⟨t, rfl⟩ := r; rfl
  | _ => exact absurd (show false = true from f) Bool.false_ne_true
theorem any_eqU {x : V} : ∀ {xs : List V} {us : List Value}, Vals xs us → xs.all flatV = true → us.any (eqU x) = xs.any fun y => eqV y x
  | _, _, .nil, _ => rfl
  | y :: xs, u :: us, .cons r t, f => by
    rw [List.all_cons, Bool.and_eq_true] at f
    rw [List.any_cons, List.any_cons, eqU_of r f.1, any_eqU t f.2]
theorem mem_eqAt {A : Around} {s : Shared} {x : V} {v : Value} (rx : RelV x v) (fx : flatV x = true) : ∀ {xs : List V} {us : List Value}, Vals xs us → xs.all flatV = true → ∀ u ∈ us, SeqAt.EqAt A s u v (eqU x u)
  | _, _, .nil, _ => fun u hu => by cases hu
  | y :: xs, u :: us, .cons r t, f => fun u' hu => by
    rw [List.all_cons, Bool.and_eq_true] at f
    rcases List.mem_cons.mp hu with rfl | hu
    · rw [eqU_of r f.1]; exact eqAt_V r rx f.1 fx
    · exact mem_eqAt rx fx t f.2 u' hu
def inV (x : V) (xs : List V) : Bool := xs.any fun y => eqV y x
/-- x in a list or tuple of flat items -/
def rIn (K : PySem.W.Frag) (neg : Bool) : R2 := fun x y H Q => ∃ p xs, y = .ref p ∧ (SqL K H p xs ∨ SqT K H p xs) ∧ flatV x = true ∧ xs.all flatV = true ∧ Q (.bl (if neg then !inV x xs else inV x xs)) H
theorem op_in_seq : OpR X (compareOp .In) (rIn X.K false) := by
  intro pins s σ H x y v u Q I rx ry h
  obtain ⟨p, xs, rfl, hq, fx, fs, q⟩ := h
  cases ry
  rcases hq with hq | hq
  · obtain ⟨its, r, pl, hz⟩ := I.list hq
    refine SeqAt.in_listAt (eqU x) pl.isList (fun w hw => mem_eqAt rx fx r fs w (by simpa using hw)) ⟨.bl _, H, I, rfl, ?_⟩
    rw [show its.toArray.any (eqU x) = its.any (eqU x) by simp, any_eqU r fs]
    exact q
  · obtain ⟨its, r, pl, hz⟩ := I.tuple hq
    refine SeqAt.in_tupleAt (eqU x) pl (fun w hw => mem_eqAt rx fx r fs w (by simpa using hw)) ⟨.bl _, H, I, rfl, ?_⟩
    rw [show its.toArray.any (eqU x) = its.any (eqU x) by simp, any_eqU r fs]
    exact q
theorem op_notIn_seq : OpR X (compareOp .NotIn) (rIn X.K true) := by
  intro pins s σ H x y v u Q I rx ry h
  obtain ⟨p, xs, rfl, hq, fx, fs, q⟩ := h
  cases ry
  rcases hq with hq | hq
  · obtain ⟨its, r, pl, hz⟩ := I.list hq
    refine SeqAt.notIn_listAt (eqU x) pl.isList (fun w hw => mem_eqAt rx fx r fs w (by simpa using hw)) ⟨.bl _, H, I, rfl, ?_⟩
    rw [show its.toArray.any (eqU x) = its.any (eqU x) by simp, any_eqU r fs]
    exact q
  · obtain ⟨its, r, pl, hz⟩ := I.tuple hq
    refine SeqAt.notIn_tupleAt (eqU x) pl (fun w hw => mem_eqAt rx fx r fs w (by simpa using hw)) ⟨.bl _, H, I, rfl, ?_⟩
    rw [show its.toArray.any (eqU x) = its.any (eqU x) by simp, any_eqU r fs]
    exact q
theorem op_notIn_str : OpR X (compareOp .NotIn) (fun x y H Q => ∃ i j, x = .str i ∧ y = .str j ∧ Q (.bl (!(!(Builtin.Str.occurrences j i 0 j.length 1).isEmpty))) H) := by
  intro pins s σ H x y v u Q I rx ry h
  obtain ⟨i, j, rfl, rfl, q⟩ := h
  obtain ⟨t, rfl⟩ := rx
  obtain ⟨t', rfl⟩ := ry
  exact notIn_str ⟨.bl _, H, I, rfl, q⟩

/-! ### len, list(x), tuple(x) of any list or tuple that is read -/
theorem call_len_seq : CallR X (.builtin "len") (fun xs H Q => ∃ p ys, xs = [.ref p] ∧ (SqL X.K H p ys ∨ SqT X.K H p ys) ∧ Q (.int ys.length) H) := by
  intro pins s σ H xs us Q I r h
  obtain ⟨p, ys, rfl, hq, q⟩ := h
  obtain ⟨u, rfl, rx⟩ := vals1 r
  cases rx
  have hn := line63
  rcases hq with hq | hq
  · obtain ⟨its, r', pl, hz⟩ := I.list hq
    have hlen := r'.length
    exact Calls.call_len_list pl.isList (by simp only [List.size_toArray] <;> omega) ⟨.int ys.length, H, I.tok _, ⟨s.toks + 1, by rw [List.size_toArray, hlen]⟩, q⟩
  · obtain ⟨its, r', pl, hz⟩ := I.tuple hq
    have hlen := r'.length
    exact len_tuple pl (by simp only [List.size_toArray] <;> omega) ⟨.int ys.length, H, I.tok _, ⟨s.toks + 1, by rw [List.size_toArray, hlen]⟩, q⟩
theorem call_len_str : CallR X (.builtin "len") (fun xs H Q => ∃ z, xs = [.str z] ∧ z.length ≤ sizeLine ∧ Q (.int z.length) H) := by
  intro pins s σ H xs us Q I r h
  obtain ⟨z, rfl, hz, q⟩ := h
  obtain ⟨u, rfl, t, rfl⟩ := vals1 r
  have hn := line63
  exact len_str (by omega) ⟨.int z.length, H, I.tok _, ⟨_, rfl⟩, q⟩
theorem CallR.or {f : Value} {r r' : List V → Hp → VK → Prop} (h : CallR X f r) (h' : CallR X f r') : CallR X f (fun xs H Q => r xs H Q ∨ r' xs H Q) := by
  intro pins s σ H xs us Q I rs q
  rcases q with q | q
  · exact h pins s σ H xs us Q I rs q
  · exact h' pins s σ H xs us Q I rs q
theorem call_list_of : CallR X (.type "list") (fun xs H Q => ∃ p ys, xs = [.ref p] ∧ (SqL X.K H p ys ∨ SqT X.K H p ys) ∧ ∀ l, H l = none → Q (.ref l) (upd H l (.lst ys))) := by
  intro pins s σ H xs us Q I r h
  obtain ⟨p, ys, rfl, hq, q⟩ := h
  obtain ⟨u, rfl, rx⟩ := vals1 r
  cases rx
  have fin : ∀ (its : List Value), Vals ys its → ys.length ≤ sizeLine → ∀ (h' : Heap) (c' : Nat), (∀ b o', s.heap.get? b = some o' → h'.get? b = some o') →
      h'.get? s.heap.objs.size = some { cls := .type "list", dict := none, data := .seq its.toArray c', slots := #[] } → EP X pins σ Q (.ref s.heap.objs.size) { s with heap := h' } := fun its r' hz h' c' kp e =>
    ⟨.ref s.heap.objs.size, _, I.laid (t' := s.toks) kp (Nat.le_refl _) (show ObjOk X.prog X.w X.K _ h' _ (.lst ys) from ⟨hz, its, c', r', e⟩), rfl, q _ (I.hok.fresh (Nat.le_refl _))⟩
  rcases hq with hq | hq
  · obtain ⟨its, r', pl, hz⟩ := I.list hq
    have hlen := r'.length
    obtain ⟨o, ho, hc, n, hd⟩ := pl.isList
    exact call_list_seq p (.inl rfl) ho hc hd (fun h' c' kp e => fin its r' hz h' c' kp e) (by simp only [List.size_toArray] <;> omega)
  · obtain ⟨its, r', pl, hz⟩ := I.tuple hq
    have hlen := r'.length
    obtain ⟨o, ho, hc, n, hd⟩ := pl
    exact call_list_seq p (.inr rfl) ho hc hd (fun h' c' kp e => fin its r' hz h' c' kp e) (by simp only [List.size_toArray] <;> omega)
theorem call_tuple_of : CallR X (.type "tuple") (fun xs H Q => ∃ p ys, xs = [.ref p] ∧ ((SqL X.K H p ys ∧ ∀ l, H l = none → Q (.ref l) (upd H l (.tup ys))) ∨ (SqT X.K H p ys ∧ Q (.ref p) H))) := by
  intro pins s σ H xs us Q I r h
  obtain ⟨p, ys, rfl, h⟩ := h
  obtain ⟨u, rfl, rx⟩ := vals1 r
  cases rx
  rcases h with ⟨hq, q⟩ | ⟨hq, q⟩
  · obtain ⟨its, r', pl, hz⟩ := I.list hq
    have hlen := r'.length
    refine call_tuple_list pl.isList (fun h' kp => ?_) (by simp only [List.size_toArray] <;> omega)
    have I1 : Inv X pins σ H { s with heap := h' } := I.kept (t' := s.toks) kp
    have I2 : Inv X pins σ (upd H h'.objs.size (.tup ys)) { s with heap := h'.push { cls := .type "tuple", data := .seq its.toArray } } :=
      I1.laid (t' := s.toks) (fun b o e => Heap.get?_push_of_some _ e) (Nat.le_refl _) (show ObjOk X.prog X.w X.K _ _ _ (.tup ys) from ⟨hz, its, r', IsTup.new _ _⟩)
    exact ⟨.ref h'.objs.size, _, I2, rfl, q _ (I1.hok.fresh (Nat.le_refl _))⟩
  · obtain ⟨its, r', pl, hz⟩ := I.tuple hq
    exact call_tuple_same pl ⟨.ref p, H, I, rfl, q⟩

/-! ### the call of a builtin's method: o.m(..) -/
/-- the value is of that builtin type -/
def tyV (K : PySem.W.Frag) (T : String) (x : V) (H : Hp) : Prop := match x with
  | .str _ => T = "str"
  | .int _ => T = "int"
  | .ref p => (T = "list" ∧ ∃ xs, SqL K H p xs) ∨ (T = "tuple" ∧ ∃ o, K.lookup p = some o ∧ o.cls = .type "tuple" ∧ o.dict = none) ∨
      (T = "dict" ∧ ((∃ kvs, H p = some (.dK kvs)) ∨ ∃ kvs, H p = some (.dT kvs))) ∨ (T = "set" ∧ ∃ S n, H p = some (.set S n))
  | _ => False
theorem tyV_is {pins : List (Addr × Obj)} {σ : St} {H : Hp} {s : Shared} {T : String} {x : V} {v : Value} (I : Inv X pins σ H s) (r : RelV x v) (ty : tyV X.K T x H) :
    s.TypeIs v T ∧ ∀ a, v = .ref a → ∃ ob, s.heap.get? a = some ob ∧ ob.dict = none := by
  cases x with
  | str z =>
    obtain ⟨t, rfl⟩ := r
    cases (show T = "str" from ty)
    exact ⟨typeIs_str s z t, fun _ e => nomatch e⟩
  | int i =>
    obtain ⟨t, rfl⟩ := r
    cases (show T = "int" from ty)
    exact ⟨typeIs_int s i t, fun _ e => nomatch e⟩
  | ref p =>
    cases r
    rcases ty with ⟨rfl, xs, hq⟩ | ⟨rfl, o, hk, hc, hd⟩ | ⟨rfl, hk⟩ | ⟨rfl, S, n, hk⟩
    · obtain ⟨its, _, pl, _⟩ := I.list hq
      refine ⟨pl.isList.typeIs, fun a e => ?_⟩
      cases e
      obtain ⟨o, n, e, c, hd, _⟩ := pl
      exact ⟨o, e, hd⟩
    · refine ⟨⟨o, I.kIn p o hk, hc⟩, fun a e => ?_⟩
      cases e
      exact ⟨o, I.kIn _ o hk, hd⟩
    · have z : ∃ o, s.heap.get? p = some o ∧ o.ExactDict := by
        rcases hk with ⟨kvs, hk⟩ | ⟨kvs, hk⟩
        · obtain ⟨_, _, _, _, o, _, _, e, ex, _⟩ := I.hok p _ hk
          exact ⟨o, e, ex⟩
        · obtain ⟨_, _, _, _, o, _, _, e, ex, _⟩ := I.hok p _ hk
          exact ⟨o, e, ex⟩
      obtain ⟨o, e, ex⟩ := z
      refine ⟨⟨o, e, ex.1⟩, fun a e2 => ?_⟩
      cases e2
      exact ⟨o, e, ex.2.1⟩
    · obtain ⟨o, _, _, _, e, ex, _⟩ := I.hok p _ hk
      refine ⟨⟨o, e, ex.1⟩, fun a e2 => ?_⟩
      cases e2
      exact ⟨o, e, ex.2.1⟩
  | _ => exact False.elim ty
def tBM0 (K : PySem.W.Frag) (T : String) (r : V → List V → Hp → VK → Prop) (to : TE) : TE := fun σ H Q => to σ H fun x H1 => tyV K T x H1 ∧ r x [] H1 Q
def tBM (K : PySem.W.Frag) (T : String) (r : V → List V → Hp → VK → Prop) (to : TE) (t : TA) : TE := fun σ H Q => to σ H fun x H1 => tyV K T x H1 ∧ t σ H1 fun xs H2 => r x xs H2 Q
variable {o e : Expr} {es : List Expr} {to : TE} {t : TA} {name : Str} {apos cpos : Pos} {T id : String} {r : V → List V → Hp → VK → Prop}
theorem pe_bm0 (pa : PlainAttrs T) (slot : Slot T name id) (hty : typeOf (.builtin id) = pure (.type "method_descriptor")) (hm : MtR X id r) (ho : PE X o to)
    (hbase : attributeBase o name X.env (eval o X.env) = eval o X.env := by rfl) (hline : (apos.endLine == cpos.line) = true := by rfl) : PE X (.Call (.Attribute o name apos) [] [] cpos) (tBM0 X.K T r to) := by
  intro pins s σ H Q I h
  refine wpAny_Call_method0_late hbase hline (thn (ho pins s σ H _ I h) fun v s1 ⟨x, H1, I1, r1, ty, q1⟩ => ?_)
  obtain ⟨h1, h2⟩ := tyV_is I1 r1 ty
  exact ⟨T, id, pa, slot, hty, h1, h2, Calls.callWith_builtin rfl (PySem.evalArgs_none (hm pins s1 σ H1 x [] v [] Q I1 r1 .nil q1))⟩
theorem pe_bm (pa : PlainAttrs T) (slot : Slot T name id) (hty : typeOf (.builtin id) = pure (.type "method_descriptor")) (hm : MtR X id r) (ho : PE X o to) (ha : PA X (e :: es) t)
    (hbase : attributeBase o name X.env (eval o X.env) = eval o X.env := by rfl)
    (hfew : ((backTo cpos (starEach (e :: es) X.env)).all (fun x => !x.1) && (backToKw cpos (keywordEach [] X.env)).all (fun x => x.1.isSome)
      && decide ((e :: es).length + ([] : List Keyword).length + (if ([] : List Keyword).isEmpty then 0 else 1) < 30)) = true := by rfl)
    (hline : (apos.endLine == cpos.line) = true := by rfl) (hs : starEach (e :: es) X.env = (false, eval e X.env) :: starEach es X.env := by rfl) (hplain : (backTo cpos (starEach es X.env)).any (·.1) = false := by rfl) :
    PE X (.Call (.Attribute o name apos) (e :: es) [] cpos) (tBM X.K T r to t) := by
  intro pins s σ H Q I h
  refine wpAny_Call_method_late hbase hfew hline rfl (thn (ho pins s σ H _ I h) fun v s1 ⟨x, H1, I1, r1, ty, q1⟩ => ?_)
  obtain ⟨h1, h2⟩ := tyV_is I1 r1 ty
  refine ⟨T, id, pa, slot, hty, h1, h2, ?_⟩
  have hA := ha cpos pins s1 σ H1 _ I1 q1
  rw [hs] at hA ⊢
  refine Calls.callWith_builtin (by show (false || (backTo cpos (starEach es X.env)).any (·.1)) = false; rw [hplain] <;> rfl) (Calls.evalArgs_plain ?_)
  exact thn hA fun us s2 ⟨vs, H2, I2, r2, q2⟩ => hm pins s2 σ H2 x vs v us Q I2 r1 r2 q2
/- xs.append(e), list.index on a module's tuple .. are MtR facts of 06m -/
end
end L2

namespace L2
open PySem PySem.Spec PyProof.Rows

def MtM (X : Cx) (id : String) (r : V → List V → Hp → VK → Prop) : Prop :=
  ∀ (pins : List (Addr × Obj)) (s : Shared) (σ : St) (H : Hp) (x : V) (xs : List V) (v : Value) (us : List Value) (Q : VK), Inv X pins σ H s → RelV x v → Vals xs us → r x xs H Q →
    wpAny (model X.prog X.w) X.A (call (.builtin id) (v :: us)) (EP X pins σ Q) X.xe s

/-! ### lists of values -/
theorem Vals.one : ∀ {x : V} {us : List Value}, Vals [x] us → ∃ u, us = [u] ∧ RelV x u
  | _, _, .cons r .nil => ⟨_, rfl, r⟩
theorem Vals.two : ∀ {x y : V} {us : List Value}, Vals [x, y] us → ∃ u v, us = [u, v] ∧ RelV x u ∧ RelV y v
  | _, _, _, .cons r (.cons q .nil) => ⟨_, _, rfl, r, q⟩
theorem Vals.zero : ∀ {us : List Value}, Vals [] us → us = []
  | _, .nil => rfl
theorem Vals.dropLast {xs : List V} {us : List Value} (h : Vals xs us) : Vals xs.dropLast us.dropLast := by
  induction h with
  | nil => exact .nil
  | cons r t ih =>
    cases t with
    | nil => exact .nil
    | cons q t' => exact .cons r ih
theorem Vals.eraseIdx : ∀ {xs : List V} {us : List Value} (i : Nat), Vals xs us → Vals (xs.eraseIdx i) (us.eraseIdx i)
  | _, _, _, .nil => .nil
  | _, _, 0, .cons _ t => t
  | _, _, i + 1, .cons r t => .cons r (Vals.eraseIdx i t)
theorem Vals.reverse {xs : List V} {us : List Value} (h : Vals xs us) : Vals xs.reverse us.reverse := by
  induction h with
  | nil => exact .nil
  | cons r t ih => rw [List.reverse_cons, List.reverse_cons]; exact Vals.append ih (.cons r .nil)
theorem Vals.rep {xs : List V} {us : List Value} (h : Vals xs us) : ∀ k : Nat, Vals (List.replicate k xs).flatten (List.replicate k us).flatten
  | 0 => .nil
  | k + 1 => by
    rw [List.replicate_succ, List.replicate_succ, List.flatten_cons, List.flatten_cons]
    exact Vals.append h (Vals.rep h k)
theorem erase_last {α : Type} (l : List α) : l.eraseIdx (l.length - 1) = l.dropLast := by
  induction l with
  | nil => rfl
  | cons a r ih =>
    cases r with
    | nil => rfl
    | cons b r =>
      have e : (a :: b :: r).length - 1 = ((b :: r).length - 1) + 1 := by
        have h1 : (a :: b :: r).length = r.length + 2 := rfl
        have h2 : (b :: r).length = r.length + 1 := rfl
        omega
      rw [e, List.eraseIdx_cons_succ, ih]
      all_goals rfl
theorem len_erase {α : Type} : ∀ (l : List α) (i : Nat), (l.eraseIdx i).length ≤ l.length
  | [], _ => Nat.le_refl _
  | _ :: _, 0 => Nat.le_succ _
  | _ :: r, i + 1 => Nat.succ_le_succ (len_erase r i)
theorem foldl_rep (its : List Value) : ∀ (k : Nat) (acc : List Value),
    List.foldl (fun x1 x2 => x1 ++ x2) acc.toArray (List.replicate k its.toArray) = (acc ++ (List.replicate k its).flatten).toArray
  | 0, acc => by simp
  | k + 1, acc => by
    have e : acc.toArray ++ its.toArray = (acc ++ its).toArray := by simp
    have e2 : (acc ++ its) ++ (List.replicate k its).flatten = acc ++ (List.replicate (k + 1) its).flatten := by
      rw [List.replicate_succ, List.flatten_cons, List.append_assoc]
    rw [← e2, ← foldl_rep its k (acc ++ its), ← e, List.replicate_succ, List.foldl_cons]

section
variable {X : Cx} {pins : List (Addr × Obj)} {σ : St} {H : Hp} {s : Shared} {l b : Addr} {xs ys zs : List V}

/-! ### the two steps: a tracked list is rewritten, a new list is laid -/
theorem Inv.lset {its its' : List Value} {n : Nat} {f : Array Value → Array Value} {t' : Nat} (I : Inv X pins σ H s) (hH : H l = some (.lst xs))
    (e : s.heap.get? l = some { cls := .type "list", data := .seq its.toArray n }) (hf : f its.toArray = its'.toArray) (hv : Vals ys its') (hz : ys.length ≤ sizeLine) :
    Inv X pins σ (upd H l (.lst ys)) { s with heap := s.heap.update l (Obj.mapSeq f), toks := t' } := by
  have q := PySem.IsL.update e f
  rw [hf] at q
  refine I.write (x := l) (e := l) (by rw [hH]; exact trivial) (.inl rfl) (fun b' u hb hu => (Heap.get?_update_other s.heap (Obj.mapSeq f) (Ne.symm hb)).trans hu) ⟨_, q⟩ ?_
  exact ⟨hz, its', _, hv, q⟩
theorem Inv.lnew {its : List Value} {t' : Nat} (I : Inv X pins σ H s) (hv : Vals ys its) (hz : ys.length ≤ sizeLine) :
    Inv X pins σ (upd H s.heap.objs.size (.lst ys)) { s with heap := s.heap.push { cls := .type "list", data := .seq its.toArray }, toks := t' } :=
  I.laid (fun _ _ q => Heap.get?_push_of_some _ q) (Nat.le_refl _) ⟨hz, its, 0, hv, Heap.get?_push_size _ rfl⟩
theorem Inv.fresh (I : Inv X pins σ H s) : H s.heap.objs.size = none := I.hok.fresh (Nat.le_refl _)
theorem Inv.lstM (I : Inv X pins σ H s) (hH : H l = some (.lst xs)) : xs.length ≤ sizeLine ∧ ∃ (its : List Value) (n : Nat), Vals xs its ∧ xs.length = its.length ∧ s.heap.get? l = some { cls := .type "list", data := .seq its.toArray n } := by
  obtain ⟨z, its, n, r, e⟩ := I.hok l _ hH
  exact ⟨z, its, n, r, r.length, e⟩

theorem notLongL {n : Nat} (h : n ≤ sizeLine) : Builtin.List.listTooLong n = false := by
  unfold Builtin.List.listTooLong
  exact decide_eq_false (by omega)
end

section
variable {X : Cx}

/-! ### methods -/
def rAppend : V → List V → Hp → VK → Prop := fun x vs H Q => ∃ l xs y, x = .ref l ∧ vs = [y] ∧ H l = some (.lst xs) ∧ xs.length < sizeLine ∧ Q .non (upd H l (.lst (xs ++ [y])))
theorem mt_append : MtM X "list.append" rAppend := by
  intro pins s σ H x vs v us Q I rx rv h
  obtain ⟨l, xs, y, rfl, rfl, hH, hz, q⟩ := h
  cases rx
  obtain ⟨u, rfl, ru⟩ := rv.one
  obtain ⟨z, its, n, r, hl, e⟩ := I.lstM hH
  refine call_meets F.slot_list_append ⟨_, e, rfl⟩ F.entry_list_append (F.args_list_append_2 _ _) (PySem.list_append l its.toArray n u (by rw [List.size_toArray]; omega)) ⟨e, ?_⟩
  refine ⟨.non, _, I.lset (its' := its ++ [u]) hH e (by simp) (r.append (.cons ru .nil)) ?_, rfl, q⟩
  rw [List.length_append, List.length_singleton]
  omega

def rExtend : V → List V → Hp → VK → Prop := fun x vs H Q => ∃ l b xs zs, x = .ref l ∧ vs = [.ref b] ∧ H l = some (.lst xs) ∧ H b = some (.lst zs) ∧ xs.length + zs.length ≤ sizeLine ∧ Q .non (upd H l (.lst (xs ++ zs)))
theorem mt_extend : MtM X "list.extend" rExtend := by
  intro pins s σ H x vs v us Q I rx rv h
  obtain ⟨l, b, xs, zs, rfl, rfl, hH, hB, hz, q⟩ := h
  cases rx
  obtain ⟨u, rfl, ru⟩ := rv.one
  cases ru
  obtain ⟨z, its, n, r, hl, e⟩ := I.lstM hH
  obtain ⟨z2, its2, n2, r2, hl2, e2⟩ := I.lstM hB
  have hsz : its.toArray.size + its2.toArray.size ≤ sizeLine := by rw [List.size_toArray, List.size_toArray]; omega
  have hlong : ¬ (!its.toArray.isEmpty && Builtin.List.listTooLong (its.toArray.size + its2.toArray.size)) = true := by
    rw [notLongL hsz, Bool.and_false]
    exact Bool.false_ne_true
  refine call_meets F.slot_list_extend ⟨_, e, rfl⟩ F.entry_list_extend (F.args_list_extend_2 _ _)
    (AutoSeq1.list_extend_list_list_0 l its.toArray n b its2.toArray n2 hlong (by rw [List.size_toArray]; omega) (by omega)) ⟨e, e2, ?_⟩
  refine ⟨.non, _, I.lset (its' := its ++ its2) hH e (by simp) (r.append r2) ?_, rfl, q⟩
  rw [List.length_append]
  omega

def rPop : V → List V → Hp → VK → Prop := fun x vs H Q => ∃ l xs y, x = .ref l ∧ vs = [] ∧ H l = some (.lst xs) ∧ xs[xs.length - 1]? = some y ∧ Q y (upd H l (.lst xs.dropLast))
theorem mt_pop : MtM X "list.pop" rPop := by
  intro pins s σ H x vs v us Q I rx rv h
  obtain ⟨l, xs, y, rfl, rfl, hH, hy, q⟩ := h
  cases rx
  have hus := rv.zero
  subst hus
  obtain ⟨z, its, n, r, hl, e⟩ := I.lstM hH
  obtain ⟨u, hu, ru⟩ := r.get hy
  have hy' : its.toArray[its.toArray.size - 1]? = some u := by
    show its.toArray[its.length - 1]? = some u
    rw [← Array.getElem?_toList, ← hl]
    exact hu
  refine call_meets F.slot_list_pop ⟨_, e, rfl⟩ F.entry_list_pop (F.args_list_pop_1 _) (MeetsSeq.list_pop_last l its.toArray n u hy' (by rw [List.size_toArray]; omega)) ⟨e, ?_⟩
  refine ⟨y, _, I.lset (its' := its.dropLast) hH e ?_ r.dropLast ?_, ru, q⟩
  · show its.toArray.eraseIdxIfInBounds (its.toArray.size - 1) = its.dropLast.toArray
    rw [List.size_toArray, List.eraseIdxIfInBounds_toArray, erase_last]
  · rw [List.length_dropLast]
    omega

def rPopAt : V → List V → Hp → VK → Prop := fun x vs H Q => ∃ l xs i k y, x = .ref l ∧ vs = [.int i] ∧ H l = some (.lst xs) ∧ -(2 ^ 63) ≤ i ∧ i < 2 ^ 63 ∧ seqIndex? i xs.length = some k ∧ xs[k]? = some y ∧ Q y (upd H l (.lst (xs.eraseIdx k)))
theorem mt_popAt : MtM X "list.pop" rPopAt := by
  intro pins s σ H x vs v us Q I rx rv h
  obtain ⟨l, xs, i, k, y, rfl, rfl, hH, h1, h2, hk, hy, q⟩ := h
  cases rx
  obtain ⟨u, rfl, ru⟩ := rv.one
  obtain ⟨t, rfl⟩ := ru
  obtain ⟨z, its, n, r, hl, e⟩ := I.lstM hH
  obtain ⟨w, hw, rw'⟩ := r.get hy
  refine call_meets F.slot_list_pop ⟨_, e, rfl⟩ F.entry_list_pop (F.args_list_pop_2 _ _)
    (MeetsSeq.list_pop_at l its.toArray n i t k w (fitsIndex_both h1 h2) (by rw [List.size_toArray, ← hl]; exact hk) (by rw [← Array.getElem?_toList]; exact hw) (by rw [List.size_toArray]; omega)) ⟨e, ?_⟩
  refine ⟨y, _, I.lset (its' := its.eraseIdx k) hH e ?_ (r.eraseIdx k) ?_, rw', q⟩
  · show its.toArray.eraseIdxIfInBounds k = (its.eraseIdx k).toArray
    rw [List.eraseIdxIfInBounds_toArray]
  · have := len_erase xs k
    omega

def rReverse : V → List V → Hp → VK → Prop := fun x vs H Q => ∃ l xs, x = .ref l ∧ vs = [] ∧ H l = some (.lst xs) ∧ Q .non (upd H l (.lst xs.reverse))
theorem mt_reverse : MtM X "list.reverse" rReverse := by
  intro pins s σ H x vs v us Q I rx rv h
  obtain ⟨l, xs, rfl, rfl, hH, q⟩ := h
  cases rx
  have hus := rv.zero
  subst hus
  obtain ⟨z, its, n, r, hl, e⟩ := I.lstM hH
  refine call_meets F.slot_list_reverse ⟨_, e, rfl⟩ F.entry_list_reverse (F.args_list_reverse_1 _) (AutoSeq1.list_reverse_list_0 l its.toArray n (by rw [List.size_toArray]; omega)) ⟨e, ?_⟩
  refine ⟨.non, _, I.lset (its' := its.reverse) hH e (by simp) r.reverse ?_, rfl, q⟩
  rw [List.length_reverse]
  omega

def rClear : V → List V → Hp → VK → Prop := fun x vs H Q => ∃ l xs, x = .ref l ∧ vs = [] ∧ H l = some (.lst xs) ∧ Q .non (upd H l (.lst []))
theorem mt_clear : MtM X "list.clear" rClear := by
  intro pins s σ H x vs v us Q I rx rv h
  obtain ⟨l, xs, rfl, rfl, hH, q⟩ := h
  cases rx
  have hus := rv.zero
  subst hus
  obtain ⟨z, its, n, r, hl, e⟩ := I.lstM hH
  refine call_meets F.slot_list_clear ⟨_, e, rfl⟩ F.entry_list_clear (F.args_list_clear_1 _) (AutoSeq1.list_clear_list_0 l its.toArray n (by rw [List.size_toArray]; omega)) ⟨e, ?_⟩
  exact ⟨.non, _, I.lset (its' := []) (ys := []) hH e rfl .nil (Nat.zero_le _), rfl, q⟩

/-! ### list + list, list += list, list * int -/
def rCat : R2 := fun x y H Q => ∃ l b xs zs, x = .ref l ∧ y = .ref b ∧ H l = some (.lst xs) ∧ H b = some (.lst zs) ∧ xs.length + zs.length ≤ sizeLine ∧ ∀ p, H p = none → Q (.ref p) (upd H p (.lst (xs ++ zs)))
theorem op_cat : OpR X (binaryOp .Add) rCat := by
  intro pins s σ H x y v u Q I rx ry h
  obtain ⟨l, b, xs, zs, rfl, rfl, hH, hB, hz, q⟩ := h
  cases rx
  cases ry
  obtain ⟨z, its, n, r, hl, e⟩ := I.lstM hH
  obtain ⟨z2, its2, n2, r2, hl2, e2⟩ := I.lstM hB
  refine PySem.P.add_list e e2 ?_ (by rw [List.size_toArray, List.size_toArray]; omega)
  have ea : its.toArray ++ its2.toArray = (its ++ its2).toArray := by simp
  rw [ea]
  exact ⟨.ref _, _, I.lnew (t' := s.toks) (r.append r2) (by rw [List.length_append]; omega), rfl, q _ I.fresh⟩
/-- a list times an int (a negative one is nothing) -/
def rRep : R2 := fun x y H Q => ∃ l k xs, x = .ref l ∧ y = .int k ∧ H l = some (.lst xs) ∧ -(2 ^ 63) ≤ k ∧ k < 2 ^ 63 ∧ xs.length * k.toNat ≤ sizeLine ∧
  ∀ p, H p = none → Q (.ref p) (upd H p (.lst (List.replicate k.toNat xs).flatten))
theorem len_rep {α : Type} (xs : List α) (k : Nat) : (List.replicate k xs).flatten.length = k * xs.length := by
  induction k with
  | zero => simp
  | succ k ih => rw [List.replicate_succ, List.flatten_cons, List.length_append, ih, Nat.succ_mul, Nat.add_comm]
theorem op_rep : OpR X (binaryOp .Mult) rRep := by
  intro pins s σ H x y v u Q I rx ry h
  obtain ⟨l, k, xs, rfl, rfl, hH, h1, h2, hz, q⟩ := h
  cases rx
  obtain ⟨t, rfl⟩ := ry
  obtain ⟨z, its, n, r, hl, e⟩ := I.lstM hH
  have hlen : its.toArray.size * k.toNat ≤ sizeLine := by rw [List.size_toArray, ← hl]; exact hz
  have hcap : ¬ its.toArray.size * k.toNat > (2 ^ 63 - 1) / 8 := by
    have : (sizeLine : Nat) ≤ (2 ^ 63 - 1) / 8 := by decide
    omega
  have hfit : ¬ (!Builtin.List.listFitsIndex k) = true := by
    rw [fitsIndex_both h1 h2]
    exact Bool.false_ne_true
  have hlong : ¬ Builtin.List.listTooLong (its.toArray.size * k.toNat) = true := by
    rw [notLongL hlen]
    exact Bool.false_ne_true
  have hnew : List.foldl (fun x1 x2 => x1 ++ x2) #[] (List.replicate (if its.toArray.isEmpty = true then 0 else k.toNat) its.toArray) = (List.replicate k.toNat its).flatten.toArray := by
    have f0 : ∀ m : Nat, List.foldl (fun x1 x2 => x1 ++ x2) #[] (List.replicate m its.toArray) = (List.replicate m its).flatten.toArray := fun m => by
      have := foldl_rep its m []
      rw [List.nil_append] at this
      exact this
    rw [f0]
    cases its with
    | nil => simp
    | cons a r' => rw [if_neg (by simp)]
  refine wpAny_binaryOp_repeat_ref (T := "list") (U := "int") (by decide) ⟨_, e, rfl⟩ (fun s' => typeIs_int s' k t) noFill_list_mul F.fills_int_mul F.slot_int_rmul repeat_list F.slot_int_index.lookup
    (call_meets F.slot_int_rmul (typeIs_int s k t) F.entry_int_rmul (F.args_int_rmul_2 _ _) (int___rmul___int_list k t l its.toArray n)
      ⟨e, rfl, ⟨_, e, rfl⟩, call_meets F.slot_list_mul ⟨_, e, rfl⟩ F.entry_list_mul (F.args_list_mul_2 _ _) (AutoListH.list___mul___list_int_3 l its.toArray n k t hfit hcap hlong) ⟨e, ?_⟩⟩)
  rw [hnew]
  exact ⟨.ref _, _, I.lnew (t' := s.toks) (r.rep k.toNat) (by rw [len_rep, Nat.mul_comm]; exact hz), rfl, q _ I.fresh⟩

/-! ### del xs[i] -/
theorem del_list {pins : List (Addr × Obj)} {s : Shared} {σ : St} {H : Hp} {l : Addr} {xs : List V} {i : Int} {t : Tok} {k : Nat} {Q : Unit → Shared → Prop} (I : Inv X pins σ H s) (hH : H l = some (.lst xs))
    (h1 : -(2 ^ 63) ≤ i) (h2 : i < 2 ^ 63) (hk : seqIndex? i xs.length = some k) (h : ∀ s', Inv X pins σ (upd H l (.lst (xs.eraseIdx k))) s' → Q () s') :
    wpAny (model X.prog X.w) X.A (delItem (.ref l) (.int i t)) Q X.xe s := by
  obtain ⟨z, its, n, r, hl, e⟩ := I.lstM hH
  refine PySem.P.delItem_list (k := k) e (fitsIndex_both h1 h2) (by rw [List.size_toArray, ← hl]; exact hk) (h _ ?_) (by rw [List.size_toArray]; omega)
  refine I.lset (its' := its.eraseIdx k) (t' := s.toks) hH e ?_ (r.eraseIdx k) ?_
  · show its.toArray.eraseIdxIfInBounds k = (its.eraseIdx k).toArray
    rw [List.eraseIdxIfInBounds_toArray]
  · have := len_erase xs k
    omega
end

/-! ### xs[a:b] = ys -/
section
variable {prog : Program} {w : World} {A : Around} {E : Value → Shared → Prop} {s : Shared}
theorem splice_eq (its its2 : List Value) (a c : Nat) : its.toArray.extract 0 a ++ its2.toArray ++ its.toArray.extract c its.toArray.size = (its.take a ++ its2 ++ its.drop c).toArray := by
  apply Array.toList_inj.mp
  first
    | (simp
       exact List.take_of_length_le (by simp))
    | simp [List.take_of_length_le]
    | simp
theorem bounds_run {a c n : Nat} (hac : a ≤ c) (hc : c ≤ n) : sliceBounds (some (a : Int)) (some (c : Int)) none n = ((a : Int), (c : Int), 1) := by
  simp only [sliceBounds, Option.getD_none]
  have h1 : ¬ ((a : Int) < 0) := by omega
  have h2 : ¬ ((c : Int) < 0) := by omega
  simp only [h1, h2, if_false, show (1 : Int) > 0 by decide, if_true]
  congr 1
  · omega
  · congr 1; omega
set_option maxRecDepth 100000 in
/-- list.__setitem__ with a slice of step one and another list -/
theorem setItem_slice {l b sl : Addr} {items new : Array Value} {n n2 : Nat} {vl vu : Value} {a c : Nat} {Q : Unit → Shared → Prop}
    (e : s.heap.get? l = some { cls := .type "list", data := .seq items n }) (e2 : s.heap.get? b = some { cls := .type "list", data := .seq new n2 }) (hne : l ≠ b)
    (hs : s.heap.IsSliceOf sl vl vu .none) (pl : IsPart vl (some (a : Int))) (pu : IsPart vu (some (c : Int))) (hac : a ≤ c) (hc : c ≤ items.size)
    (hsz : items.size + new.size ≤ sizeLine) (h : Q () { s with heap := s.heap.update l (Obj.mapSeq fun xs => xs.extract 0 a ++ new ++ xs.extract c xs.size) }) :
    wpAny (model prog w) A (setItem (.ref l) (.ref sl) (.ref b)) Q E s := by
  have hl : s.heap.IsList l items := PySem.IsL.isList e
  have hb : s.heap.IsList b new := PySem.IsL.isList e2
  obtain ⟨os, hos, hcs, hds⟩ := id hs
  have hTs : s.TypeIs (.ref sl) "slice" := ⟨os, hos, hcs⟩
  have hstep : ¬ ((rawPart none == rawInt 0) = true) := Bool.false_ne_true
  have hsame : Builtin.List.listSameRef (.ref l) (.ref b) = false := by
    unfold Builtin.List.listSameRef
    exact beq_eq_false_iff_ne.mpr hne
  have hmax : (max (a : Int) (c : Int)).toNat = c := by omega
  have hz' : ((fun xs : Array Value => xs.extract 0 a ++ new ++ xs.extract c xs.size) items).size ≤ sizeLine + 1 := by
    simp only [Array.size_append, Array.size_extract]
    omega
  unfold setItem
  try with_reducible refine wpAny_holding ?_
  first | refine wpAny_bind (wpAny_pure ?_) | skip
  refine wpAny_bind (wpAny_sequenceKey hl.typeIs (by decide) ?_)
  refine wpAny_bind (wpAny_callSpecial?_slot (name := Str.ofString "__setitem__") hl.typeIs slot_list_setitem
    (wpAny_call_entry slot_list_setitem hl.typeIs entry_list_setitem ?_ (args_list_setitem _ _ _)))
  show wpAny _ _ (Builtin.List.listSubscript? (.ref sl) >>= _) _ _ s
  refine wpAny_bind ?_
  unfold Builtin.List.listSubscript?
  refine wpAny_bind (wpAny_specialOf hTs slice_no_index ?_)
  simp only [Option.isNone_none, if_true]
  refine wpAny_pure ?_
  show wpAny _ _ (typeOf (.ref sl) >>= _) _ _ s
  refine wpAny_bind (wpAny_typeOf hTs ?_)
  first
    | rw [if_neg (by decide)]
    | refine PySem.W.KFB.if_not (by decide) ?_
  rw [listSliceParts_eq]
  refine wpAny_bind (wpAny_bind (wpAny_field hos hds (x := .none) rfl (wpAny_bind (wpAny_listPart .none ?_))))
  rw [if_neg hstep]
  refine wpAny_bind (wpAny_field hos hds (x := vl) rfl (wpAny_bind (wpAny_listPart pl ?_)))
  refine wpAny_bind (wpAny_field hos hds (x := vu) rfl (wpAny_bind (wpAny_listPart pu (wpAny_pure ?_))))
  first
    | simp only [hsame, Bool.false_eq_true, if_false]
    | refine PySem.W.KFB.if_not hsame ?_
    | (dsimp only
       rw [if_neg (by rw [hsame]; exact Bool.false_ne_true)])
  refine wpAny_bind (m := Builtin.List.listAllItems (.ref b) "must assign iterable to extended slice") ?_
  unfold Builtin.List.listAllItems
  refine wpAny_bind (wpAny_typeOf hb.typeIs ?_)
  first
    | refine PySem.W.KFB.if_so (by decide) ?_
    | rw [if_pos (by decide)]
    | simp only [beq_self_eq_true, Bool.true_or, if_true]
  unfold Builtin.List.listItems
  refine wpAny_bind (wpAny_seqItems e2 rfl (wpAny_pure ?_))
  refine wpAny_bind (wpAny_bind (wpAny_seqItems e rfl (wpAny_pure ?_)))
  refine wpAny_bind (wpAny_of_eq ((sliceIndices_raw (some (a : Int)) (some (c : Int)) none items.size (by simp)).trans (congrArg (pure : Int × Int × Int → Sem (Int × Int × Int)) (bounds_run hac hc))) ?_)
  show wpAny _ _ (if ((1 : Int) == 1) = true then _ else _) _ _ s
  rw [if_pos (by decide)]
  refine wpAny_bind (wpAny_rule ?_)
  first
    | simp only [notLongL hsz, Bool.false_eq_true, if_false]
    | refine PySem.W.KFB.if_not (notLongL hsz) ?_
  first | refine wpAny_bind (wpAny_pure ?_) | skip
  show wpAny _ _ (updateSeq l (fun xs => xs.extract 0 ((a : Int)).toNat ++ new ++ xs.extract (max (a : Int) (c : Int)).toNat xs.size) >>= _) _ _ s
  rw [hmax, Int.toNat_natCast]
  refine wpAny_bind (wpAny_updateSeq (hz := Nat.le_trans (Nat.le_add_right _ _) hsz) (_hz' := hz') e rfl ?_)
  refine wpAny_bind (wpAny_letGo ?_)
  first
    | exact wpAny_bind (wpAny_pure (wpAny_pure ⟨.none, rfl, wpAny_pure h⟩))
    | exact wpAny_pure ⟨.none, rfl, wpAny_pure h⟩
end

section
variable {X : Cx}
/-- xs[a:c] = ys of another list, at the value level: sl is the slice object that was just made -/
theorem set_slice {pins : List (Addr × Obj)} {s : Shared} {σ : St} {H : Hp} {l b sl : Addr} {xs ys : List V} {a c : Int} {vl vu : Value} {Q : Unit → Shared → Prop} (I : Inv X pins σ H s)
    (hH : H l = some (.lst xs)) (hB : H b = some (.lst ys)) (hne : l ≠ b) (hs : s.heap.IsSliceOf sl vl vu .none) (ra : RelV (.int a) vl) (rc : RelV (.int c) vu) (h0 : 0 ≤ a) (hac : a ≤ c) (hc : c ≤ xs.length)
    (hz : xs.length + ys.length ≤ sizeLine) (h : ∀ s', Inv X pins σ (upd H l (.lst (xs.take a.toNat ++ ys ++ xs.drop c.toNat))) s' → Q () s') :
    wpAny (model X.prog X.w) X.A (setItem (.ref l) (.ref sl) (.ref b)) Q X.xe s := by
  obtain ⟨ta, rfl⟩ := ra
  obtain ⟨tc, rfl⟩ := rc
  obtain ⟨z, its, n, r, hl, e⟩ := I.lstM hH
  obtain ⟨z2, its2, n2, r2, hl2, e2⟩ := I.lstM hB
  obtain ⟨a', rfl⟩ := Int.eq_ofNat_of_zero_le h0
  obtain ⟨c', rfl⟩ := Int.eq_ofNat_of_zero_le (Int.le_trans h0 hac)
  simp only [Int.toNat_natCast] at h
  refine setItem_slice (a := a') (c := c') e e2 hne hs (.int _ _) (.int _ _) (by omega) (by rw [List.size_toArray]; omega) (by rw [List.size_toArray, List.size_toArray]; omega) (h _ ?_)
  refine I.lset (its' := its.take a' ++ its2 ++ its.drop c') (t' := s.toks) hH e ?_ (Vals.append (Vals.append (r.take _) r2) (r.drop _)) ?_
  · exact splice_eq its its2 a' c'
  · rw [List.length_append, List.length_append, List.length_take, List.length_drop]
    omega
end
end L2

namespace Att
open PySem PySem.W PySem.Calls PyProof.Rows

/-! ### the script -/
theorem ints_of_wellAll {P : Params} {h : Heap} : ∀ (ns : List Int) (vs : List Value), WellAll P h vs (ns.map WData.int) → IntsAre vs ns := by
  intro ns
  induction ns with
  | nil =>
    intro vs w
    rw [List.map_nil] at w
    cases w
    exact .nil
  | cons n ns ih =>
    intro vs w
    rw [List.map_cons] at w
    cases w with
    | cons a b =>
      cases a
      exact .cons _ _ (ih _ b)

theorem script_of {l : OpenLaw} {n : Nat} (hn : l.most = some n) {P : Params} {h : Heap} {args : List WData} {vals : List Value}
    (hpre : l.row.toRowW.claim.pre args = true) (hwl : WellAll P h vals args) :
    ∃ a vs ns, vals = [Value.ref a] ∧ args = [WData.list (ns.map WData.int)] ∧ h.get? a = some { cls := .type "list", data := .seq vs.toArray } ∧ IntsAre vs ns ∧ ns.length ≤ n := by
  have hsh : WShape.hasAll [] args [.list .int] = true := (pre_splitW hpre).1
  have hc : l.pre.holds [] { args := args } = true := (pre_splitW hpre).2
  obtain ⟨d, r, rfl, h1, h2⟩ := hasAllW_cons hsh
  obtain rfl := hasAllW_nil h2
  obtain ⟨xs, rfl, h3⟩ := hasW_list h1
  obtain ⟨ns, rfl⟩ := items_int h3
  have hlen : ns.length ≤ n := by
    unfold OpenLaw.pre at hc
    have h4 : (WTm.not (.lt (.lit (.int (n : Int))) (.len (.arg 0)))).holds [] { args := [.list (ns.map .int)] } = true := by
      have h4 := (holds_andW hc).1
      rw [hn] at h4
      exact h4
    have h5 := condW_of h4 (w_not (w_lt w_lit (w_len_list (w_arg rfl))))
    rw [List.length_map] at h5
    refine Nat.le_of_not_lt fun q => ?_
    have q' : (n : Int) < ((ns.length : Nat) : Int) := by omega
    first
      | (rw [decide_eq_true q'] at h5; exact absurd h5 (by decide))
      | (simp at h5; omega)
  cases hwl with
  | cons w1 w2 =>
    cases w2
    cases w1 with
    | list ho hall => exact ⟨_, _, ns, rfl, rfl, ho, ints_of_wellAll ns _ hall, hlen⟩

theorem post_true (l : OpenLaw) (args : List WData) : l.row.toRowW.claim.post args (.bool true) args = true :=
  postW_of (r := l.row.toRowW) (X := (true == true))
    (show WShape.has [] (.bool true) .bool = true by first | rfl | decide | simp [WShape.has, WShape.arms, WShape.armsAll])
    (show (WTm.eq .res (.lit (.bool true))).value [] { args := args, res := some (.bool true), after := args } = some (.bool (true == true)) from w_eq_bool (w_res rfl) w_lit) rfl

/-! ### the attachment: holds_open's last premise (the goal 'hc' behind k_head) from a wpAny of the law's body -/
theorem attach {l : OpenLaw} {n : Nat} {q : Program} {loose : List Str} {XP : (Str → Option Value) → Heap → Prop} {YP : World → Heap → Prop} {d : DefRec} {x : Str}
    (hn : l.most = some n) (hdf : d.params.defaults = [])
    (hbind : ∀ pm cd doc v : Value, bindArgs (docDef d.name d.params d.body d.scope pm cd doc) ⟨[v], []⟩ = pure [(x, v)])
    (hx : d.scope.names.lookup x = some .local ∨ d.scope.names.lookup x = some .cell)
    (hk : d.scope.kind = .function) (hco : d.scope.isCoroutine = false) (hgen : d.scope.isGenerator = false)
    (body : ∀ (w : World) (s₀ s₁ s : Shared) (mg mb : Str → Option Value) (fa : Addr) (o : Obj) (pm cd doc : Value) (a : Addr) (vs : List Value) (ns : List Int),
      Ground q loose [] XP w s₀ mg mb s₁.heap → YP w s₁.heap →
      s₁.heap.get? fa = some o → o.data = .func (docDef d.name d.params d.body d.scope pm cd doc) → s₁.heap.CodeRec cd d.name → mg d.name = some (.ref fa) →
      s₁.heap.get? a = some { cls := .type "list", data := .seq vs.toArray } → IntsAre vs ns → ns.length ≤ n →
      s.gens = #[] → s.os = s₁.os →
      Fr s₁.heap s₁.heap.objs.size s.heap (bindL (envOfC d.name d.scope s₁.heap.objs.size fa cd).kindOf [(x, .ref a)] fun _ => none) →
      Cl s₁.heap.objs.size (cellsFrom (s₁.heap.objs.size + 1) d.scope.names []) s.heap (bindC (envOfC d.name d.scope s₁.heap.objs.size fa cd).kindOf [(x, .ref a)] fun _ => none) →
      wpAny (model l.prog w) (callerA.deeper (envOfC d.name d.scope s₁.heap.objs.size fa cd)) (execs d.body (envOfC d.name d.scope s₁.heap.objs.size fa cd))
        (fun f s' => f = .ret (.bool true) ∧ OldK s₁.heap s'.heap ∧ s'.os = s₁.os ∧ AllBare s'.gens) (fun _ _ => False) s) :
    WalkO q loose XP YP l.row.toRowW d [] (fun f vs => PySem.call f vs) := by
  intro w s₀ s₁ mg mb G Y fa o pm cd doc dV kV ho hd hcd hD hmg hg args vals as hpre hlay hrd hwl hlo
  obtain rfl : dV = .none := Dflts.none hD hdf
  obtain rfl : kV = .none := Dflts.noKw hD
  obtain ⟨a, vs, ns, rfl, rfl, hobj, hints, hlen⟩ := script_of hn hpre hwl
  refine enter_call ?_
  refine call_cells_ret (o := o) (by rw [depth_caller]; decide) ho (fd_plain hd) G.T.nolimit hcd (hbind pm cd doc (.ref a)) (fun y hy => ?_) (fun h₁ tk F X => ?_) hco hgen hk
  · obtain rfl : y = (x, Value.ref a) := List.mem_singleton.mp hy
    rcases hx with e | e
    · exact .inl e
    · exact .inr ⟨e, cellsFrom_some _ _ _ (.inl e)⟩
  · refine wpAny_mono (body w s₀ s₁ { s₁ with heap := h₁, toks := tk } mg mb fa o pm cd doc a vs ns G Y ho (fd_plain hd) hcd hmg hobj hints hlen hg rfl F X) (fun f s' hq => ?_) (fun _ _ hq => hq)
    obtain ⟨rfl, h2, h3, h4⟩ := hq
    exact ⟨.inl ⟨.bool true, .bool true, [], rfl, fun _ => rfl, .bool true, post_true l _, fun _ => ⟨List.Pairwise.nil, fun _ hm => (nomatch hm)⟩⟩, h2, h3, h4⟩

/-- the same from a codeAny of the CALL (for a layer whose function contracts speak of calls) -/
theorem attach_call {l : OpenLaw} {n : Nat} {q : Program} {loose : List Str} {XP : (Str → Option Value) → Heap → Prop} {YP : World → Heap → Prop} {d : DefRec}
    (hn : l.most = some n) (hdf : d.params.defaults = [])
    (call : ∀ (w : World) (s₀ s₁ : Shared) (mg mb : Str → Option Value) (fa : Addr) (o : Obj) (pm cd doc : Value) (a : Addr) (vs : List Value) (ns : List Int),
      Ground q loose [] XP w s₀ mg mb s₁.heap → YP w s₁.heap →
      s₁.heap.get? fa = some o → o.data = .func (docDef d.name d.params d.body d.scope pm cd doc) → s₁.heap.CodeRec cd d.name → mg d.name = some (.ref fa) →
      s₁.heap.get? a = some { cls := .type "list", data := .seq vs.toArray } → IntsAre vs ns → ns.length ≤ n → s₁.gens = #[] →
      codeAny (model l.prog w) callerA (.call (.ref fa) ⟨[.ref a], []⟩) (fun r s' => r = .ok (.ret (.bool true)) ∧ OldK s₁.heap s'.heap ∧ s'.os = s₁.os ∧ AllBare s'.gens) s₁) :
    WalkO q loose XP YP l.row.toRowW d [] (fun f vs => PySem.call f vs) := by
  intro w s₀ s₁ mg mb G Y fa o pm cd doc dV kV ho hd hcd hD hmg hg args vals as hpre hlay hrd hwl hlo
  obtain rfl : dV = .none := Dflts.none hD hdf
  obtain rfl : kV = .none := Dflts.noKw hD
  obtain ⟨a, vs, ns, rfl, rfl, hobj, hints, hlen⟩ := script_of hn hpre hwl
  refine enter_call (codeAny_mono (call w s₀ s₁ mg mb fa o pm cd doc a vs ns G Y ho (fd_plain hd) hcd hmg hobj hints hlen hg) fun r s' hq => ?_)
  obtain ⟨rfl, h2, h3, h4⟩ := hq
  exact ⟨.inl ⟨.bool true, .bool true, [], rfl, fun _ => rfl, .bool true, post_true l _, fun _ => ⟨List.Pairwise.nil, fun _ hm => (nomatch hm)⟩⟩, h2, h3, h4⟩

/-- the same where the top left finished generators (o_head chose holds_openN): nothing may have changed at all and no generator may be left -/
theorem attachN {l : OpenLaw} {n : Nat} {q : Program} {loose : List Str} {XP : (Str → Option Value) → Heap → Prop} {YP : World → Heap → Prop} {d : DefRec} {x : Str}
    (hn : l.most = some n) (hdf : d.params.defaults = [])
    (hbind : ∀ pm cd doc v : Value, bindArgs (docDef d.name d.params d.body d.scope pm cd doc) ⟨[v], []⟩ = pure [(x, v)])
    (hx : d.scope.names.lookup x = some .local ∨ d.scope.names.lookup x = some .cell)
    (hk : d.scope.kind = .function) (hco : d.scope.isCoroutine = false) (hgen : d.scope.isGenerator = false)
    (body : ∀ (w : World) (s₀ s₁ s : Shared) (mg mb : Str → Option Value) (fa : Addr) (o : Obj) (pm cd doc : Value) (a : Addr) (vs : List Value) (ns : List Int),
      Ground q loose [] XP w s₀ mg mb s₁.heap → YP w s₁.heap →
      s₁.heap.get? fa = some o → o.data = .func (docDef d.name d.params d.body d.scope pm cd doc) → s₁.heap.CodeRec cd d.name → mg d.name = some (.ref fa) →
      s₁.heap.get? a = some { cls := .type "list", data := .seq vs.toArray } → IntsAre vs ns → ns.length ≤ n →
      s.gens = #[] → s.os = s₁.os →
      Fr s₁.heap s₁.heap.objs.size s.heap (bindL (envOfC d.name d.scope s₁.heap.objs.size fa cd).kindOf [(x, .ref a)] fun _ => none) →
      Cl s₁.heap.objs.size (cellsFrom (s₁.heap.objs.size + 1) d.scope.names []) s.heap (bindC (envOfC d.name d.scope s₁.heap.objs.size fa cd).kindOf [(x, .ref a)] fun _ => none) →
      wpAny (model l.prog w) (callerA.deeper (envOfC d.name d.scope s₁.heap.objs.size fa cd)) (execs d.body (envOfC d.name d.scope s₁.heap.objs.size fa cd))
        (fun f s' => f = .ret (.bool true) ∧ (∀ b o, s₁.heap.get? b = some o → s'.heap.get? b = some o) ∧ s'.os = s₁.os ∧ s'.gens = #[]) (fun _ _ => False) s) :
    WalkN q loose XP YP l.row.toRowW d [] (fun f vs => PySem.call f vs) := by
  intro w s₀ s₁ mg mb G Y fa o pm cd doc dV kV ho hd hcd hD hmg hg args vals as hpre hlay hrd hwl hlo
  obtain rfl : dV = .none := Dflts.none hD hdf
  obtain rfl : kV = .none := Dflts.noKw hD
  obtain ⟨a, vs, ns, rfl, rfl, hobj, hints, hlen⟩ := script_of hn hpre hwl
  refine enter_callW ?_
  refine call_cells_ret (o := o) (by rw [depth_caller]; decide) ho (fd_plain hd) G.T.nolimit hcd (hbind pm cd doc (.ref a)) (fun y hy => ?_) (fun h₁ tk F X => ?_) hco hgen hk
  · obtain rfl : y = (x, Value.ref a) := List.mem_singleton.mp hy
    rcases hx with e | e
    · exact .inl e
    · exact .inr ⟨e, cellsFrom_some _ _ _ (.inl e)⟩
  · refine wpAny_mono (body w s₀ s₁ { s₁ with heap := h₁, toks := tk } mg mb fa o pm cd doc a vs ns G Y ho (fd_plain hd) hcd hmg hobj hints hlen hg rfl F X) (fun f s' hq => ?_) (fun _ _ hq => hq)
    obtain ⟨rfl, h2, h3, h4⟩ := hq
    exact ⟨.inl ⟨.bool true, .bool true, [], rfl, fun _ => rfl, .bool true, post_true l _, fun _ => ⟨List.Pairwise.nil, fun _ hm => (nomatch hm)⟩⟩, h2, h3, h4⟩

/-! ### rules over ANY heap (no ledger) from facts about the written part K: the library's own take a ledger (News) for what they write -/
section
variable {prog : Program} {w : World} {A : Around} {E : Value → Shared → Prop} {s : Shared} {K : Frag}

/-- a def of the module, or a method (qual 'C.m'), entered: the frame is the next address; cells behind it -/
theorem call_fn {R : Result → Shared → Prop} {name qual : Str} {params : Arguments} {body : List Stmt} {scope : Scope} {dV kV doc pm cdv ct oc : Value} {an od : Option Addr} {osl : Array (Option Value)} {f : Addr} {args : Args} {binds : List (Str × Value)}
    (X : K.In s.heap) (hlim : s.heap.NoLimit) (ho : K.lookup f = some ⟨oc, od, .func (fnOf name qual params body scope dV kV doc pm an cdv ct), osl⟩) (hcd : codeIn K cdv qual = true) (hroom : A.depth < recursionLimit)
    (hbind : BindsTo s (fnOf name qual params body scope dV kV doc pm an cdv ct) args binds)
    (hkind : (binds.all fun y => scope.names.lookup y.1 == some .local || scope.names.lookup y.1 == some .cell) = true)
    (h : ∀ s₁, InCallC s s.heap.objs.size (bindL (envOfC qual scope s.heap.objs.size f cdv).kindOf binds fun _ => none) (cellsFrom (s.heap.objs.size + 1) scope.names [])
        (bindC (envOfC qual scope s.heap.objs.size f cdv).kindOf binds fun _ => none) s₁ →
      wpAny (model prog w) (A.deeper (envOfC qual scope s.heap.objs.size f cdv)) (execs body (envOfC qual scope s.heap.objs.size f cdv))
        (fun fl s' => R (.ok (.ret (match fl with | .ret v => v | _ => .none))) s')
        (fun e s' => wpAny (model prog w) (A.deeper (envOfC qual scope s.heap.objs.size f cdv)) (leaving (envOfC qual scope s.heap.objs.size f cdv) e) (fun _ s'' => R (.error e) s'') (fun e' s'' => R (.error e') s'') s') s₁)
    (hco : scope.isCoroutine = false) (hgen : scope.isGenerator = false) (hk : scope.kind = .function) : codeAny (model prog w) A (.call (.ref f) args) R s := by
  refine codeAny_call_function hroom (X _ _ ho) rfl hco hgen rfl (codeRec_of X hcd) (hbind _ _ _ _ ?_)
  refine wpAny_newFunctionEnv_cells hk (kindsX hkind _) fun env he s₁ x => ?_
  subst he
  exact ⟨hlim.keeps x.toInCall.keep, codeAny_func (h s₁ x)⟩

/-- C(..): dict at size, instance at size + 1, then __init__ -/
theorem make_obj {R : Result → Shared → Prop} {C fI : Addr} {rest : List Value} {kw : List (Str × Value)}
    (X : K.In s.heap) (hm : makesIn K C = true) (hi : findIn K (.ref C) "__init__" = some (some (.ref fI))) (hf : isFn K (.ref fI) = true)
    (h : codeAny (model prog w) (A.under (.builtin "type.__call__" ⟨.ref C :: rest, kw⟩)) (.call (.ref fI) ⟨.ref (s.heap.objs.size + 1) :: rest, kw⟩) (InitBack (s.heap.objs.size + 1) R)
      { s with heap := (s.heap.push emptyDict).push (instObj C s.heap.objs.size) }) : codeAny (model prog w) A (.call (.ref C) ⟨rest, kw⟩) R s := by
  obtain ⟨hh, g, d, t, os⟩ := s
  exact make_core (makes_of X hm) (looks_findIn X hi) (fun self => bind_fn X self (beq_iff_eq.mp hf)) (.inl rfl) h

/-- x.name where the instance's dict holds the name and the class does not -/
theorem get_field {x C : Addr} {ox : Obj} {es : List DictEntry} {n : Nat} {name : Str} {expr : Bool} {v : Value} {Q : Value → Shared → Prop}
    (X : K.In s.heap) (I : PySem.W.InstAt s.heap x ox C (some (dictOf es n))) (hg : plainGet K C name = true) (hh : hasDictIn K C = true) (ha : findIn K (.ref C) name = some none)
    (hl : getL name es = some (some v)) (hv : handedIn v = true) (h : Q v { s with toks := s.toks + 1 }) : wpAny (model prog w) A (getAttr (.ref x) name expr) Q E s :=
  get_value X I (plainGet_of hg).1 (findObj_own hh ha rfl hl) hv h

/-- x.m(..): the method found in the class -/
theorem get_method {x C f : Addr} {ox : Obj} {es : List DictEntry} {n : Nat} {name : Str} {pl : Sem Bool} {Q : Value × List Value → Shared → Prop}
    (X : K.In s.heap) (I : PySem.W.InstAt s.heap x ox C (some (dictOf es n))) (hg : plainGet K C name = true) (hf : findIn K (.ref C) name = some (some (.ref f))) (ht : isFn K (.ref f) = true)
    (hl : getL name es = some none) (h : Q (.ref f, [.ref x]) s) : wpAny (model prog w) A (getMethod (.ref x) name pl) Q E s :=
  method_fn X I (plainGet_of hg).1 (plainGet_of hg).2 hf (beq_iff_eq.mp ht) (by show (lookIn name (dictOf es n)).map _ = _; rw [lookIn_dict, hl]; rfl) h

/-! the whole heap as the ledger: makes every rule that writes through a ledger a rule over any heap -/
def noObjs (h : Heap) : Heap := { h with objs := #[] }
theorem noObjs_get (h : Heap) (b : Addr) : (noObjs h).get? b = none := by
  cases e : (noObjs h).get? b with
  | none => rfl
  | some o => exact absurd (Heap.lt_size e) (Nat.not_lt_zero _)
def ledger (h : Heap) (L d : Addr) : List (Addr × Obj) := (List.range h.objs.size).filterMap fun a => if a = L ∨ a = d then none else (h.get? a).map fun o => (a, o)
theorem mem_ledger {h : Heap} {L d a : Addr} {o : Obj} : (a, o) ∈ ledger h L d ↔ a ≠ L ∧ a ≠ d ∧ h.get? a = some o := by
  unfold ledger
  rw [List.mem_filterMap]
  constructor
  · rintro ⟨b, _, e⟩
    split at e
    · cases e
    · rename_i hb
      obtain ⟨o', ho, e'⟩ := Option.map_eq_some_iff.mp e
      cases e'
      exact ⟨fun q => hb (.inl q), fun q => hb (.inr q), ho⟩
  · rintro ⟨n1, n2, ho⟩
    refine ⟨a, List.mem_range.mpr (Heap.lt_size ho), ?_⟩
    rw [if_neg (show ¬ (a = L ∨ a = d) from fun q => q.elim n1 n2), ho] <;> rfl
theorem news_ledger {h : Heap} {L d : Addr} {od : Obj} (hne : d ≠ L) (ho : h.get? d = some od) : News (noObjs h) L h ([] ++ (d, od) :: ledger h L d) := by
  rintro ⟨a, o⟩ hp
  rcases List.mem_cons.mp hp with e | hp
  · cases e
    exact ⟨ho, hne, noObjs_get _ _⟩
  · obtain ⟨n1, n2, e⟩ := mem_ledger.mp hp
    exact ⟨e, n1, noObjs_get _ _⟩
theorem fr_all {h : Heap} {L : Addr} {m : Str → Option Value} (n : h.Ns L m) : Fr (noObjs h) L h m :=
  ⟨n, fun b o e => (by rw [noObjs_get] at e; cases e), Nat.zero_le _⟩
/-- Upd of the head entry (for append_K, setItem_K ..) -/
theorem upd_ledger {h : Heap} {L d : Addr} {o o' : Obj} : Upd d o o' ((d, o) :: ledger h L d) ((d, o') :: ledger h L d) :=
  .head fun ⟨_, _⟩ hp => (mem_ledger.mp hp).2.1

/-- x.name = v over any heap: L is any namespace of the heap (the frame's, say): its map stays, its object is not told; all else but the dict stays -/
theorem set_field {x C dx L : Addr} {ox : Obj} {m : Str → Option Value} {es es' : List DictEntry} {n n' : Nat} {name : Str} {v : Value} {Q : Unit → Shared → Prop}
    (X : K.In s.heap) (I : PySem.W.InstAt s.heap x ox C (some (dictOf es n))) (hd : ox.dict = some dx) (hL : s.heap.Ns L m) (hne : dx ≠ L)
    (hs : findIn K (.ref C) "__setattr__" = some (some (.builtin "object.__setattr__"))) (hp : plainOver K C = true) (ht : takerIn K C name = some none) (hh : hasDictIn K C = true) (hl : (getL name es).isSome = true)
    (e : (putL name (PyData.keyHash w.params name) (.str name (s.toks + 1)) v es, putN name es n) = (es', n')) (hz : es'.length ≤ 1000)
    (h : ∀ h' : Heap, h'.Ns L m → h'.get? dx = some (dictOf es' n') → (∀ b o, b ≠ dx → b ≠ L → s.heap.get? b = some o → h'.get? b = some o) → Q () { s with heap := h', toks := s.toks + 2 }) :
    wpAny (model prog w) A (setAttr (.ref x) name v) Q E s := by
  obtain ⟨e1, e2⟩ := Prod.mk.inj e
  have hdx : s.heap.get? dx = some (dictOf es n) := by
    have := I.dict
    rw [hd] at this
    exact this
  refine set_plain X I hs (osa_dict (s := { s with toks := s.toks + 1 }) (h₀ := noObjs s.heap) (L := L) (m := m) (od := dictOf es n) (od' := dictOf es' n') (es := es') (n := n') (pre := []) (post := ledger s.heap L dx)
    (fr_all hL) (news_ledger hne hdx) X I hd hp ht hh hl (fun _ q => nomatch q) (fun ⟨_, _⟩ q => (mem_ledger.mp q).2.1) (by rw [putName_dict, e1, e2]) rfl hz fun h' F' N' => ?_)
  exact h h' F'.ns (N'.get (List.Mem.head _)) fun b o n1 n2 ho => N'.get (List.Mem.tail _ (mem_ledger.mpr ⟨n2, n1, ho⟩))
end
end Att

namespace L2
open PySem PySem.Spec PyProof.Rows

theorem vals_ints : ∀ {vs : List Value} {ns : List Int}, IntsAre vs ns → Vals (ns.map V.int) vs
  | _, _, .nil => .nil
  | _, _, .cons n t h => .cons ⟨t, rfl⟩ (vals_ints h)

/-- nothing is tracked but the script, known to the object (or it is an object of the module) -/
def Only (H : Hp) : Prop := ∀ b, H b = none ∨ ∃ o xs, H b = some (.frz o (.lst xs))

/-- THE HEAD: the law's promise, at the heap behind the top. F, the promise of the law's def, may use that base is part of the heap (so K.In base, base.Ns mainGlobals mg stand in Mod) -/
theorem law_call {P : Program} {w : World} {K : PySem.W.Frag} {mg mb : Str → Option Value} {CX : CXT} {k : Nat} {fa a : Addr} {fd : FuncData} {x : Str} {sp : Sp} {s₁ : Shared} {vs : List Value} {ns : List Int}
    (KX : K.In s₁.heap) (hns : s₁.heap.Ns mainGlobals mg) (hb : s₁.heap.Ns builtinsNs mb) (hbb : ∀ x : Str, x ≠ "__name__" → mb x = bootBuiltins x) (hlim : s₁.heap.NoLimit) (hg : s₁.gens = #[])
    (ha : s₁.heap.get? a = some { cls := .type "list", data := .seq vs.toArray }) (hi : IntsAre vs ns) (hl : ns.length ≤ sizeLine) (hr : Room k callerA)
    (F : ∀ base : Heap, K.In base → base.Ns mainGlobals mg → FnOk P w K mg base CX k fa fd [x] sp) (hbind : ∀ (s : Shared) (u : Value), BindsTo s fd ⟨[u], []⟩ [(x, u)])
    (hsp : ∀ H : Hp, Only H → SqL K H a (ns.map V.int) → sp [.ref a] H (fun v _ => v = .bl true) fun _ _ _ => False)
    (hCX : ∀ H e s', CX [] H s₁ (fun _ _ _ => False) e s' → False) :
    codeAny (model P w) callerA (.call (.ref fa) ⟨[.ref a], []⟩) (fun r s' => r = .ok (.ret (.bool true)) ∧ OldK s₁.heap s'.heap ∧ s'.os = s₁.os ∧ AllBare s'.gens) s₁ := by
  have rv := vals_ints hi
  have lenV := hi.length
  -- from an abstract heap in which nothing but the script may be tracked
  have core : ∀ H : Hp, Only H → SqL K H a (ns.map V.int) → HOk P w K H s₁.heap → (∀ b, H b ≠ none → b = a) → (H a ≠ none → K.lookup a = none) →
      codeAny (model P w) callerA (.call (.ref fa) ⟨[.ref a], []⟩) (fun r s' => r = .ok (.ret (.bool true)) ∧ OldK s₁.heap s'.heap ∧ s'.os = s₁.os ∧ AllBare s'.gens) s₁ := by
    intro H hO hS hok hA hK
    have base_of : ∀ {b : Addr} {o : Obj}, s₁.heap.get? b = some o → H b = none → (hidT s₁.heap H).get? b = some o := fun e n => hidT_get e n
    have noA : ∀ {b : Addr} {o : Obj} {es : Array DictEntry} {ep : Nat}, s₁.heap.get? b = some o → o.data = .dict es ep → H b = none := fun {b o es ep} e d => by
      cases q : H b with
      | none => rfl
      | some u =>
        have e' : b = a := hA b (by rw [q]; simp)
        subst e'
        rw [ha] at e; cases e
        have d' : Data.seq vs.toArray _ = Data.dict es ep := d
        cases d'
    have nsK : ∀ {b : Addr} {m : Str → Option Value}, s₁.heap.Ns b m → (hidT s₁.heap H).Ns b m := fun {b m} ⟨o, es, ep, e, d, r⟩ => ⟨o, es, ep, base_of e (noA e d), d, r⟩
    have hKb : K.In (hidT s₁.heap H) := fun b o e => base_of (KX b o e) (by
      cases q : H b with
      | none => rfl
      | some u =>
        have e' : b = a := hA b (by rw [q]; simp)
        subst e'
        rw [hK (by rw [q]; simp)] at e; cases e)
    have hM : Mod K mg (hidT s₁.heap H) := ⟨hKb, nsK hns, ⟨mb, nsK hb, hbb⟩, let ⟨mc, h1, h2⟩ := hlim; ⟨mc, nsK h1, h2⟩⟩
    have e0 : Env0 P w K mg (hidT s₁.heap H) callerA [] s₁ H := ⟨rfl, hM, fun b o e => of_hidT e, Nat.le_of_eq (hidT_size _ _), trivial, fun b hb => absurd (show b ∈ ([] : List Addr) from hb) (by simp), hok, .of_eq hg⟩
    refine codeAny_mono ((F _ hKb (nsK hns)).run callerA [] s₁ H ⟨[.ref a], []⟩ [.ref a] [.ref a] _ _ hr e0 (hbind s₁ (.ref a)) (.cons rfl .nil) (hsp H hO hS)) fun r s' h => ?_
    cases r with
    | error e => exact (hCX H e s' h).elim
    | ok fl =>
      cases fl with
      | next => exact False.elim h
      | brk => exact False.elim h
      | cont => exact False.elim h
      | ret u =>
        obtain ⟨v, H', os, bare, un, hok', r', q⟩ := h
        have q' : v = .bl true := q
        subst q'
        obtain rfl : u = Value.bool true := r'
        refine ⟨rfl, OldK.of_keep fun b o e => ?_, os, bare⟩
        cases q : H b with
        | none => exact un.keep b o e q (by intro z; exact absurd (show b ∈ ([] : List Addr) from z) (by simp)) (by simp)
        | some u =>
          rcases hO b with z | ⟨ob, xs, z⟩
          · rw [q] at z; cases z
          · have z2 := un.frzs b ob _ z
            obtain ⟨e1, _⟩ := hok b _ z
            obtain ⟨e2, _⟩ := hok' b _ z2
            rw [e] at e1; cases e1
            exact e2
  cases hk : K.lookup a with
  | some o =>
    -- the script is one of the module's own objects
    have e := KX a o hk
    rw [ha] at e
    cases e
    refine core (fun _ => none) (fun _ => .inl rfl) (.inr ⟨_, vs.toArray, _, hk, rfl, rfl, rfl, by rw [List.size_toArray, lenV]; exact hl, by simpa using rv⟩) (fun b u z => by have z' : (none : Option HO) = some u := z; cases z') (fun b z => absurd rfl z) fun z => absurd rfl z
  | none =>
    refine core (fun b => if b = a then some (.frz { cls := .type "list", data := .seq vs.toArray } (.lst (ns.map V.int))) else none) (fun b => ?_) (.inl (.inr ⟨{ cls := .type "list", data := .seq vs.toArray }, if_pos rfl⟩)) (fun b u z => ?_) (fun b z => ?_) fun _ => hk
    · by_cases hb : b = a
      · exact .inr ⟨_, _, if_pos hb⟩
      · exact .inl (if_neg hb)
    · by_cases hb : b = a
      · have z' := (if_pos hb).symm.trans z
        cases z'
        subst hb
        exact ⟨ha, by rw [List.length_map]; exact hl, vs, _, rv, ha⟩
      · have z' := (if_neg hb).symm.trans z
        cases z'
    · by_cases hb : b = a
      · exact hb
      · exact absurd (if_neg hb) z
end L2

namespace L2
open PySem PySem.Spec PyProof.Rows

abbrev KOf {K : PySem.W.Frag} {h : Heap} (_ : K.In h) : PySem.W.Frag := K

/-- the goal that k_head leaves (case hc), from the law's promise. F gives the function object fd (K's own) once, then the promise over every base -/
theorem walk_of {l : PySem.W.OpenLaw} {n k : Nat} {q : Program} {loose : List Str} {XP : (Str → Option Value) → Heap → Prop} {YP : World → Heap → Prop} {d : DefRec} {K : Params → PySem.W.Frag} {CX : World → CXT} {sp : World → Sp} {x : Str}
    (hn : l.most = some n) (hn2 : n ≤ sizeLine) (hdf : d.params.defaults = []) (hr : Room k callerA)
    (hY : ∀ (w : World) (h : Heap), YP w h → (K w.params).In h)
    (F : ∀ (w : World) (mg : Str → Option Value) (fa : Addr) (h : Heap), (K w.params).In h → h.Ns mainGlobals mg → mg d.name = some (.ref fa) →
      ∃ fd : FuncData, (∀ (s : Shared) (u : Value), BindsTo s fd ⟨[u], []⟩ [(x, u)]) ∧
        ∀ base : Heap, (K w.params).In base → base.Ns mainGlobals mg → FnOk l.prog w (K w.params) mg base (CX w) k fa fd [x] (sp w))
    (hsp : ∀ (w : World) (H : Hp) (a : Addr) (ns : List Int), ns.length ≤ n → Only H → SqL (K w.params) H a (ns.map V.int) → sp w [.ref a] H (fun v _ => v = .bl true) fun _ _ _ => False)
    (hCX : ∀ (w : World) (H : Hp) (s : Shared) (e : Value) (s' : Shared), CX w [] H s (fun _ _ _ => False) e s' → False) :
    PySem.W.WalkO q loose XP YP l.row.toRowW d [] (fun f vs => PySem.call f vs) := by
  refine Att.attach_call hn hdf fun w s₀ s₁ mg mb fa o pm cd doc a vs ns G Y ho hd hcd hmg hobj hints hlen hg => ?_
  have KX := hY w _ Y
  obtain ⟨fd, hb, hF⟩ := F w mg fa _ KX G.T.g hmg
  exact law_call KX G.T.g G.T.b G.T.builtins G.T.nolimit hg hobj hints (Nat.le_trans hlen hn2) hr hF hb (fun H hO hS => hsp w H a ns hlen hO hS) fun H e s' => hCX w H s₁ e s'
/-- the same where the promise hangs on the written part alone: (sp := My.sp_law), no hole under a binder -/
theorem walk_ofK {l : PySem.W.OpenLaw} {n k : Nat} {q : Program} {loose : List Str} {XP : (Str → Option Value) → Heap → Prop} {YP : World → Heap → Prop} {d : DefRec} {K : Params → PySem.W.Frag} {CX : CXT} {sp : PySem.W.Frag → Sp} {x : Str}
    (hn : l.most = some n) (hn2 : n ≤ sizeLine) (hdf : d.params.defaults = []) (hr : Room k callerA)
    (hY : ∀ (w : World) (h : Heap), YP w h → (K w.params).In h)
    (F : ∀ (w : World) (mg : Str → Option Value) (fa : Addr) (h : Heap), (K w.params).In h → h.Ns mainGlobals mg → mg d.name = some (.ref fa) →
      ∃ fd : FuncData, (∀ (s : Shared) (u : Value), BindsTo s fd ⟨[u], []⟩ [(x, u)]) ∧
        ∀ base : Heap, (K w.params).In base → base.Ns mainGlobals mg → FnOk l.prog w (K w.params) mg base CX k fa fd [x] (sp (K w.params)))
    (hsp : ∀ (K : PySem.W.Frag) (H : Hp) (a : Addr) (ns : List Int), ns.length ≤ n → Only H → SqL K H a (ns.map V.int) → sp K [.ref a] H (fun v _ => v = .bl true) fun _ _ _ => False)
    (hCX : ∀ (H : Hp) (s : Shared) (e : Value) (s' : Shared), CX [] H s (fun _ _ _ => False) e s' → False) :
    PySem.W.WalkO q loose XP YP l.row.toRowW d [] (fun f vs => PySem.call f vs) :=
  walk_of (K := K) (CX := fun _ => CX) (sp := fun w => sp (K w.params)) hn hn2 hdf hr hY F (fun w H a ns h1 h2 h3 => hsp (K w.params) H a ns h1 h2 h3) fun _ H s e s' => hCX H s e s'
end L2


/-! SHORT WORDS over the layer: a def of the text, its body, what a loop and a test want. -/
namespace L2
open PySem PySem.Spec PyProof.Rows

/-! ### the text by places -/
/-- the j-th statement of a class's body -/
def inClass (s : Stmt) (j : Nat) : Stmt := match s with
  | .ClassDef _ _ _ body _ _ _ _ _ _ _ => body.getD j (.Pass ⟨0, 0, 0, 0⟩)
  | _ => .Pass ⟨0, 0, 0, 0⟩
def defArgs (s : Stmt) : Arguments := match s with
  | .FunctionDef _ a _ _ _ _ _ _ _ _ => a
  | _ => { posonlyargs := [], args := [], vararg := none, kwonlyargs := [], kw_defaults := [], kwarg := none, defaults := [] }
def defBody (s : Stmt) : List Stmt := match s with
  | .FunctionDef _ _ b _ _ _ _ _ _ _ => b
  | _ => []
def defScope (s : Stmt) : Scope := match s with
  | .FunctionDef _ _ _ _ _ _ sc _ _ _ => sc
  | _ => { kind := .function, names := [], isGenerator := false, isCoroutine := false }

/-! ### no exception leaves a def -/
abbrev CX0 : CXT := fun _ _ _ _ _ _ => False
abbrev E0 : XK := fun _ _ _ => False
theorem pass0 {X : Cx} : Passes CX0 X E0 := fun _ _ _ _ _ _ _ h => h.elim

/-! ### a def (or method) of the text as it stands behind the top -/
structure Fun (K : PySem.W.Frag) (x qual : Str) (st : Stmt) (f : Addr) (fd : FuncData) : Prop where
  ex : ∃ (oc : Value) (od : Option Addr) (kV doc pm : Value) (an : Option Addr) (cdv ct : Value) (osl : Array (Option Value)),
    fd = PySem.W.fnOf x qual (defArgs st) (defBody st) (defScope st) .none kV doc pm an cdv ct ∧ K.lookup f = some ⟨oc, od, .func fd, osl⟩ ∧ PySem.W.codeIn K cdv qual = true
  kp : PySem.W.keepIn K (.ref f) = true
section
variable {P : Program} {w : World} {K : PySem.W.Frag} {mg : Str → Option Value} {base : Heap}
/-- THE RULE for a def: its body as a term of rules, and the reading of that term -/
theorem Fun.ok {x qual : Str} {st : Stmt} {f : Addr} {fd : FuncData} {N ps : List Str} {k : Nat} {sp : Sp} (F : Fun K x qual st f fd) (S : FnScope N ps (defScope st)) (len : ∀ vs H Q E, sp vs H Q E → vs.length = ps.length)
    (hbody : ∀ (cdv : Value) (A : Around) (outer : List Env) (s : Shared) (H : Hp) (vs : List V) (Q : VK) (E : XK), Room k (A.deeper (envOfC qual (defScope st) s.heap.objs.size f cdv)) → sp vs H Q E →
      ∃ t, PSs (cxOf CX0 P w K mg base N qual (defScope st) f cdv A outer s H E).nox (defBody st) t ∧ t { nx := fun _ H' => Q .non H', rt := Q } (start N vs) H) : FnOk P w K mg base CX0 (k + 1) f fd ps sp := by
  obtain ⟨oc, od, kV, doc, pm, an, cdv, ct, osl, rfl, lk, hcd⟩ := F.ex
  refine fn_of lk hcd S len fun A outer s H vs Q E hr hsp => ?_
  obtain ⟨t, h, q⟩ := hbody cdv A outer s H vs Q E hr hsp
  exact ⟨t, h.nox, q⟩
/-- how its arguments bind (no defaults): h is «fun _ _ _ _ _ _ us hl => match us, hl with | [_, _], _ => rfl», one _ a parameter -/
theorem Fun.binds {x qual : Str} {st : Stmt} {f : Addr} {fd : FuncData} {ps : List Str} (F : Fun K x qual st f fd)
    (h : ∀ (kV doc pm : Value) (an : Option Addr) (cdv ct : Value) (us : List Value), us.length = ps.length → bindArgs (PySem.W.fnOf x qual (defArgs st) (defBody st) (defScope st) .none kV doc pm an cdv ct) ⟨us, []⟩ = pure (ps.zip us)) : Binds K fd ps [] := by
  obtain ⟨oc, od, kV, doc, pm, an, cdv, ct, osl, rfl, lk, hcd⟩ := F.ex
  exact .all (h kV doc pm an cdv ct)
theorem fun_mk {x qual : Str} {st : Stmt} {f : Addr} {oc : Value} {od an : Option Addr} {osl : Array (Option Value)} {kV doc pm cdv ct : Value} (l : K.lookup f = some ⟨oc, od, .func (PySem.W.fnOf x qual (defArgs st) (defBody st) (defScope st) .none kV doc pm an cdv ct), osl⟩)
    (c : PySem.W.codeIn K cdv qual = true) (k : PySem.W.keepIn K (.ref f) = true) : Fun K x qual st f (PySem.W.fnOf x qual (defArgs st) (defBody st) (defScope st) .none kV doc pm an cdv ct) := ⟨⟨oc, od, kV, doc, pm, an, cdv, ct, osl, rfl, l, c⟩, k⟩
end
theorem hu_of {A : Around} {k : Nat} (hr : Room k A) : A.units + 1 < cLine := Nat.lt_of_le_of_lt (Nat.add_le_add_left (by decide : 1 ≤ 64) _) hr.units
theorem small1000 {n : Nat} (h : n ≤ 1000) : n < sizeLine := Nat.lt_of_le_of_lt h (by decide)

/-! ### expressions in short: the name that stands in the i-th slot -/
section
variable {X : Cx}
theorem pv (i : Nat) {x : Str} {pos : Pos} (hN : X.N[i]? = some x := by rfl) (hv : Vis X.env.scope x := by first | exact Or.inl rfl | exact Or.inr (Or.inl rfl) | exact Or.inr (Or.inr rfl)) (hd : (x == ("__debug__" : Str)) = false := by decide)
    (hcd : (x == ("__classdict__" : Str)) = false := by decide) : PE X (.Name x pos) (tVar i) := pe_var hN hv hd hcd
/-- len of a dict -/
theorem call_lenD : CallR X (.builtin "len") (fun xs H Q => ∃ a kvs, xs = [V.ref a] ∧ H a = some (.dK kvs) ∧ Q (.int kvs.length) H) := by
  intro pins s σ H xs us Q I r h
  obtain ⟨a, kvs, rfl, ha, q⟩ := h
  obtain ⟨u, rfl, ru⟩ := vals1 r
  cases ru
  exact d_len I (.inl ha) fun t s' I' => ⟨.int kvs.length, H, I', ⟨t, rfl⟩, q⟩
end

/-! ### tests -/
theorem iteF {A B : Prop} (h : B) : if false = true then A else B := by
  rw [if_neg Bool.false_ne_true]
  exact h
theorem iteT {A B : Prop} (h : A) : if true = true then A else B := by
  rw [if_pos rfl]
  exact h
theorem ite2 {c A B : Prop} [Decidable c] (h1 : c → A) (h2 : ¬ c → B) : if c then A else B := by
  by_cases h : c
  · rw [if_pos h]
    exact h1 h
  · rw [if_neg h]
    exact h2 h
theorem iteNS {c A B : Prop} [Decidable c] (hc : c) (h : B) : if (!decide c) = true then A else B := by
  rw [decide_eq_true hc]
  exact iteF h

/-! ### heaps -/
/-- all that was tracked is as it was -/
def Same (H H' : Hp) : Prop := ∀ b o, H b = some o → H' b = some o
theorem Same.refl (H : Hp) : Same H H := fun _ _ h => h
theorem Same.trans {H H1 H2 : Hp} (a : Same H H1) (b : Same H1 H2) : Same H H2 := fun c o h => b c o (a c o h)
theorem Same.free {H H' : Hp} (e : Same H H') {l : Addr} (h : H' l = Option.none) : H l = Option.none := by
  cases q : H l with
  | none => rfl
  | some o =>
    rw [e l o q] at h
    cases h
theorem Same.seq {K : PySem.W.Frag} {H H' : Hp} {a : Addr} {xs : List V} (e : Same H H') (h : SqL K H a xs) : SqL K H' a xs := by
  rcases h with (h | ⟨o, h⟩) | h
  · exact .inl (.inl (e _ _ h))
  · exact .inl (.inr ⟨o, e _ _ h⟩)
  · exact .inr h

/-! ### a dict's pairs: keys that differ -/
section
variable {κ : Type} [DecidableEq κ]
theorem valV_not {kvs : List (κ × V)} {k : κ} (h : valV kvs k = none) : ¬ k ∈ kvs.map (·.1) := by
  intro m
  obtain ⟨p, hp, e⟩ := List.mem_map.mp m
  have q : (kvs.any fun kv => decide (kv.1 = k)) = true := List.any_eq_true.mpr ⟨p, hp, decide_eq_true e⟩
  rw [valV_any, h] at q
  exact absurd q (by simp)
theorem valV_in {kvs : List (κ × V)} {k : κ} {v : V} (h : valV kvs k = some v) : k ∈ kvs.map (·.1) := by
  have q : (kvs.any fun kv => decide (kv.1 = k)) = true := by
    rw [valV_any, h]
    all_goals rfl
  obtain ⟨p, hp, e⟩ := List.any_eq_true.mp q
  exact List.mem_map.mpr ⟨p, hp, of_decide_eq_true e⟩
theorem nd_snoc : ∀ {l : List κ} {k : κ}, l.Nodup → ¬ k ∈ l → (l ++ [k]).Nodup
  | [], k, _, _ => by simp
  | a :: r, k, h, hk => by
    obtain ⟨h1, h2⟩ := List.nodup_cons.mp h
    show (a :: (r ++ [k])).Nodup
    refine List.nodup_cons.mpr ⟨fun m => ?_, nd_snoc h2 fun m => hk (List.mem_cons.mpr (Or.inr m))⟩
    rcases List.mem_append.mp m with q | q
    · exact h1 q
    · exact hk (List.mem_cons.mpr (Or.inl (List.mem_singleton.mp q).symm))
theorem nd_putK {kvs : List (κ × V)} {k : κ} (v : V) (hn : (kvs.map (·.1)).Nodup) (h : valV kvs k = none) : ((putK kvs k v).map (·.1)).Nodup := by
  rw [putK_new v h, List.map_append]
  exact nd_snoc hn (valV_not h)
theorem dropK_pos {p : κ × V} {r : List (κ × V)} {k : κ} (e : p.1 = k) : dropK (p :: r) k = dropK r k := by
  unfold dropK
  rw [List.filter_cons, if_neg (by simp [e])]
theorem dropK_neg {p : κ × V} {r : List (κ × V)} {k : κ} (e : ¬ p.1 = k) : dropK (p :: r) k = p :: dropK r k := by
  unfold dropK
  rw [List.filter_cons, if_pos (by simp [e])]
theorem dropK_no : ∀ {kvs : List (κ × V)} {k : κ}, ¬ k ∈ kvs.map (·.1) → dropK kvs k = kvs
  | [], _, _ => rfl
  | p :: r, k, h => by
    have h' : ¬ k ∈ r.map (·.1) := fun m => by
      obtain ⟨q, hq, e⟩ := List.mem_map.mp m
      exact h (List.mem_map.mpr ⟨q, List.mem_cons.mpr (Or.inr hq), e⟩)
    rw [dropK_neg fun e => h (List.mem_map.mpr ⟨p, List.mem_cons.mpr (Or.inl rfl), e⟩), dropK_no h']
theorem dropK_mem {kvs : List (κ × V)} {k : κ} {p : κ × V} (h : p ∈ dropK kvs k) : p ∈ kvs := (List.mem_filter.mp h).1
theorem nd_dropK : ∀ {kvs : List (κ × V)} {k : κ}, (kvs.map (·.1)).Nodup → ((dropK kvs k).map (·.1)).Nodup
  | [], _, _ => List.nodup_nil
  | p :: r, k, h => by
    have h : (p.1 :: r.map (·.1)).Nodup := h
    obtain ⟨h1, h2⟩ := List.nodup_cons.mp h
    by_cases e : p.1 = k
    · rw [dropK_pos e]
      exact nd_dropK h2
    · rw [dropK_neg e]
      show (p.1 :: (dropK r k).map (·.1)).Nodup
      refine List.nodup_cons.mpr ⟨fun m => h1 ?_, nd_dropK h2⟩
      obtain ⟨q, hq, eq⟩ := List.mem_map.mp m
      exact List.mem_map.mpr ⟨q, dropK_mem hq, eq⟩
theorem dropK_len : ∀ {kvs : List (κ × V)} {k : κ}, (kvs.map (·.1)).Nodup → k ∈ kvs.map (·.1) → (dropK kvs k).length + 1 = kvs.length
  | [], _, _, m => by simp at m
  | p :: r, k, h, m => by
    have h : (p.1 :: r.map (·.1)).Nodup := h
    have m : k = p.1 ∨ k ∈ r.map (·.1) := List.mem_cons.mp m
    obtain ⟨h1, h2⟩ := List.nodup_cons.mp h
    by_cases e : p.1 = k
    · subst e
      rw [dropK_pos rfl, dropK_no h1]
      all_goals rfl
    · have m' : k ∈ r.map (·.1) := m.resolve_left fun z => e z.symm
      have q := dropK_len h2 m'
      rw [dropK_neg e, List.length_cons, List.length_cons]
      omega
end
end L2


set_option Elab.async false
set_option linter.all false
set_option maxRecDepth 100000
namespace L3
open PySem PySem.Spec L2
open PyProof.Rows hiding St

/-! ### values whose tuples are trees; scr: a list that nobody writes (the script); lst: a list's content, for comparisons alone -/
inductive W where
  | non | bl (b : Bool) | int (i : Int) | str (x : Str) | ref (a : Addr) | ty (n : String) | tup (ws : List W) | scr (ws : List W) | lst (ws : List W)
mutual
def W.beq : W → W → Bool
  | .non, .non => true
  | .bl a, .bl b => a == b
  | .int a, .int b => a == b
  | .str a, .str b => decide (a = b)
  | .ref a, .ref b => a == b
  | .ty a, .ty b => a == b
  | .tup a, .tup b => W.beqs a b
  | .scr a, .scr b => W.beqs a b
  | .lst a, .lst b => W.beqs a b
  | _, _ => false
def W.beqs : List W → List W → Bool
  | [], [] => true
  | a :: x, b :: y => W.beq a b && W.beqs x y
  | _, _ => false
end
mutual
theorem W.beq_iff : ∀ a b, W.beq a b = true ↔ a = b
  | .tup a, b => by
    cases b with
    | tup b => rw [W.beq, W.beqs_iff a b]; exact ⟨fun h => by rw [h], fun h => by injection h⟩
    | _ => simp [W.beq]
  | .scr a, b => by
    cases b with
    | scr b => rw [W.beq, W.beqs_iff a b]; exact ⟨fun h => by rw [h], fun h => by injection h⟩
    | _ => simp [W.beq]
  | .lst a, b => by
    cases b with
    | lst b => rw [W.beq, W.beqs_iff a b]; exact ⟨fun h => by rw [h], fun h => by injection h⟩
    | _ => simp [W.beq]
  | .non, b => by cases b <;> simp [W.beq]
  | .bl a, b => by cases b <;> simp [W.beq]
  | .int a, b => by cases b <;> simp [W.beq]
  | .str a, b => by cases b <;> simp [W.beq]
  | .ref a, b => by cases b <;> simp [W.beq]
  | .ty a, b => by cases b <;> simp [W.beq]
theorem W.beqs_iff : ∀ a b, W.beqs a b = true ↔ a = b
  | [], [] => by simp [W.beqs]
  | [], _ :: _ => by simp [W.beqs]
  | _ :: _, [] => by simp [W.beqs]
  | a :: x, b :: y => by rw [W.beqs, Bool.and_eq_true, W.beq_iff a b, W.beqs_iff x y]; exact ⟨fun ⟨p, q⟩ => by rw [p, q], fun h => by injection h with p q; exact ⟨p, q⟩⟩
end
instance : DecidableEq W := fun a b => decidable_of_iff _ (W.beq_iff a b)

/-! ### what stays: tuples and what is frozen -/
structure TX (H H' : Hp) : Prop where
  tup : ∀ b xs, H b = some (.tup xs) → H' b = some (.tup xs)
  frz : ∀ b o u, H b = some (.frz o u) → H' b = some (.frz o u)
theorem TX.refl (H : Hp) : TX H H := ⟨fun _ _ h => h, fun _ _ _ h => h⟩
theorem TX.trans {H H1 H2 : Hp} (a : TX H H1) (b : TX H1 H2) : TX H H2 := ⟨fun c o h => b.tup c o (a.tup c o h), fun c o u h => b.frz c o u (a.frz c o u h)⟩
theorem TX.fresh {H : Hp} {p : Addr} {o : HO} (h : H p = none) : TX H (upd H p o) :=
  ⟨fun c xs e => by rw [upd_ne (ne_of_none e h)]; exact e, fun c ob u e => by rw [upd_ne (ne_of_none e h)]; exact e⟩
theorem TX.write {H : Hp} {p : Addr} {o : HO} (mu : Mut (H p)) : TX H (upd H p o) :=
  ⟨fun c xs e => by rw [upd_ne (fun z => by subst z; rw [e] at mu; exact mu)]; exact e, fun c ob u e => by rw [upd_ne (fun z => by subst z; rw [e] at mu; exact mu)]; exact e⟩

/-- a frozen list, or one of the module's own -/
def FrzL (K : PySem.W.Frag) (H : Hp) (a : Addr) (vs : List V) : Prop :=
  (∃ o, H a = some (.frz o (.lst vs))) ∨ ∃ (o : Obj) (its : Array Value) (n : Nat), K.lookup a = some o ∧ o.cls = .type "list" ∧ o.dict = none ∧ o.data = .seq its n ∧ its.size ≤ sizeLine ∧ Vals vs its.toList
theorem FrzL.sq {K : PySem.W.Frag} {H : Hp} {a : Addr} {vs : List V} (h : FrzL K H a vs) : SqL K H a vs := by
  rcases h with ⟨o, h⟩ | h
  · exact .inl (.inr ⟨o, h⟩)
  · exact .inr h
theorem FrzL.mono {K : PySem.W.Frag} {H H' : Hp} {a : Addr} {vs : List V} (h : FrzL K H a vs) (t : TX H H') : FrzL K H' a vs := by
  rcases h with ⟨o, h⟩ | h
  · exact .inl ⟨o, t.frz _ _ _ h⟩
  · exact .inr h
theorem _root_.L2.TupAt.sq {K : PySem.W.Frag} {H : Hp} {a : Addr} {vs : List V} (h : TupAt K H a vs) : SqT K H a vs := by
  rcases h with h | h
  · exact .inl (.inl h)
  · exact .inr h

mutual
inductive Rep (K : PySem.W.Frag) (H : Hp) : W → V → Prop
  | non : Rep K H .non .non
  | bl (b : Bool) : Rep K H (.bl b) (.bl b)
  | int (i : Int) : Rep K H (.int i) (.int i)
  | str (x : Str) : Rep K H (.str x) (.str x)
  | ref (a : Addr) : Rep K H (.ref a) (.ref a)
  | ty (n : String) : Rep K H (.ty n) (.ty n)
  | tup {a : Addr} {vs : List V} {ws : List W} : TupAt K H a vs → Reps K H ws vs → Rep K H (.tup ws) (.ref a)
  | scr {a : Addr} {vs : List V} {ws : List W} : FrzL K H a vs → Reps K H ws vs → Rep K H (.scr ws) (.ref a)
inductive Reps (K : PySem.W.Frag) (H : Hp) : List W → List V → Prop
  | nil : Reps K H [] []
  | cons {w : W} {v : V} {ws : List W} {vs : List V} : Rep K H w v → Reps K H ws vs → Reps K H (w :: ws) (v :: vs)
end
mutual
theorem Rep.mono {K : PySem.W.Frag} {H H' : Hp} (t : TX H H') : ∀ {w : W} {v : V}, Rep K H w v → Rep K H' w v
  | _, _, .non => .non
  | _, _, .bl b => .bl b
  | _, _, .int i => .int i
  | _, _, .str x => .str x
  | _, _, .ref a => .ref a
  | _, _, .ty n => .ty n
  | _, _, .tup h r => .tup (h.mono t.tup) (Reps.mono t r)
  | _, _, .scr h r => .scr (h.mono t) (Reps.mono t r)
theorem Reps.mono {K : PySem.W.Frag} {H H' : Hp} (t : TX H H') : ∀ {ws : List W} {vs : List V}, Reps K H ws vs → Reps K H' ws vs
  | _, _, .nil => .nil
  | _, _, .cons a b => .cons (Rep.mono t a) (Reps.mono t b)
end
section
variable {K : PySem.W.Frag} {H : Hp}
theorem Reps.paired : ∀ {ws : List W} {vs : List V}, Reps K H ws vs → Paired (Rep K H) ws vs
  | _, _, .nil => .nil
  | _, _, .cons a b => .cons a (Reps.paired b)
theorem Reps.of : ∀ {ws : List W} {vs : List V}, Paired (Rep K H) ws vs → Reps K H ws vs
  | _, _, .nil => .nil
  | _, _, .cons a b => .cons a (Reps.of b)
theorem Reps.length : ∀ {ws : List W} {vs : List V}, Reps K H ws vs → ws.length = vs.length
  | _, _, .nil => rfl
  | _, _, .cons _ b => by simp [Reps.length b]
theorem Reps.get : ∀ {ws : List W} {vs : List V} {i : Nat} {w : W}, Reps K H ws vs → ws[i]? = some w → ∃ v, vs[i]? = some v ∧ Rep K H w v
  | _, _, _, _, .nil, e => by simp at e
  | _, _, 0, _, .cons r _, e => by simp at e; subst e; exact ⟨_, rfl, r⟩
  | _, _, i + 1, w, .cons _ t, e => by
    obtain ⟨u, h1, h2⟩ := Reps.get (i := i) (w := w) t (by simpa using e)
    exact ⟨u, by simpa using h1, h2⟩
theorem Reps.get' : ∀ {ws : List W} {vs : List V} {i : Nat} {v : V}, Reps K H ws vs → vs[i]? = some v → ∃ w, ws[i]? = some w ∧ Rep K H w v
  | _, _, _, _, .nil, e => by simp at e
  | _, _, 0, _, .cons r _, e => by simp at e; subst e; exact ⟨_, rfl, r⟩
  | _, _, i + 1, w, .cons _ t, e => by
    obtain ⟨u, h1, h2⟩ := Reps.get' (i := i) (v := w) t (by simpa using e)
    exact ⟨u, by simpa using h1, h2⟩
theorem Reps.append : ∀ {ws ws' : List W} {vs vs' : List V}, Reps K H ws vs → Reps K H ws' vs' → Reps K H (ws ++ ws') (vs ++ vs')
  | _, _, _, _, .nil, s => s
  | _, _, _, _, .cons r t, s => .cons r (Reps.append t s)
theorem Reps.take : ∀ {ws : List W} {vs : List V} (n : Nat), Reps K H ws vs → Reps K H (ws.take n) (vs.take n)
  | _, _, 0, _ => .nil
  | _, _, _ + 1, .nil => .nil
  | _, _, n + 1, .cons r t => .cons r (Reps.take n t)
theorem Reps.drop : ∀ {ws : List W} {vs : List V} (n : Nat), Reps K H ws vs → Reps K H (ws.drop n) (vs.drop n)
  | _, _, 0, r => r
  | _, _, _ + 1, .nil => .nil
  | _, _, n + 1, .cons _ t => Reps.drop n t
theorem Reps.set {w : W} {v : V} (r : Rep K H w v) : ∀ {ws : List W} {vs : List V} (i : Nat), Reps K H ws vs → Reps K H (ws.set i w) (vs.set i v)
  | _, _, _, .nil => .nil
  | _, _, 0, .cons _ t => .cons r t
  | _, _, i + 1, .cons q t => .cons q (Reps.set r i t)
theorem Reps.rep {ws : List W} {vs : List V} (r : Reps K H ws vs) : ∀ n : Nat, Reps K H (List.replicate n ws).flatten (List.replicate n vs).flatten
  | 0 => .nil
  | n + 1 => by rw [List.replicate_succ, List.replicate_succ, List.flatten_cons, List.flatten_cons]; exact r.append (r.rep n)
theorem Reps.one {ws : List W} {v : V} (h : Reps K H ws [v]) : ∃ w, ws = [w] ∧ Rep K H w v := by
  cases h with
  | cons a b => cases b; exact ⟨_, rfl, a⟩
theorem Reps.nil_iff {ws : List W} {vs : List V} (r : Reps K H ws vs) : ws = [] ↔ vs = [] := by
  cases r with
  | nil => simp
  | cons _ _ => simp
end

/-! ### objects -/
inductive WO where
  | lst (ws : List W)
  | dct (t : Bool) (kvs : List (W × W))
  | ins (C : Addr) (fs : List (Str × W))
abbrev WH := Addr → Option WO
def gup (G : WH) (a : Addr) (o : WO) : WH := fun b => if b = a then some o else G b
theorem gup_same {G : WH} {a : Addr} {o : WO} : gup G a o a = some o := by unfold gup; rw [if_pos rfl]
theorem gup_ne {G : WH} {a b : Addr} {o : WO} (h : b ≠ a) : gup G a o b = G b := by unfold gup; rw [if_neg h]
theorem gne_of_none {G : WH} {a b : Addr} {o : WO} (h : G a = some o) (h' : G b = none) : a ≠ b := by
  intro e; subst e; rw [h] at h'; cases h'
def keyS : Key → W
  | .inl i => .int i
  | .inr x => .str x
theorem keyS_inj {a b : Key} (e : keyS a = keyS b) : a = b := by
  cases a <;> cases b <;> simp [keyS] at e <;> simp [e]
theorem keySs_inj : ∀ {a b : List Key}, a.map keyS = b.map keyS → a = b
  | [], [], _ => rfl
  | [], _ :: _, e => by simp at e
  | _ :: _, [], e => by simp at e
  | a :: x, b :: y, e => by
    simp only [List.map_cons, List.cons.injEq] at e
    rw [keyS_inj e.1, keySs_inj e.2]
def ORel (K : PySem.W.Frag) (H : Hp) (a : Addr) : WO → Prop
  | .lst ws => ∃ vs, H a = some (.lst vs) ∧ Reps K H ws vs
  | .dct false kvs => ∃ ks : List (Key × V), H a = some (.dK ks) ∧ Paired (fun (p : W × W) (q : Key × V) => p.1 = keyS q.1 ∧ Rep K H p.2 q.2) kvs ks
  | .dct true kvs => ∃ ks : List (List Key × V), H a = some (.dT ks) ∧ Paired (fun (p : W × W) (q : List Key × V) => p.1 = .tup (q.1.map keyS) ∧ Rep K H p.2 q.2) kvs ks
  | .ins C fs => ∃ dx gs, H a = some (.ins C dx gs) ∧ Paired (fun (p : Str × W) (q : Str × V) => p.1 = q.1 ∧ Rep K H p.2 q.2) fs gs
def Sim (K : PySem.W.Frag) (G : WH) (H : Hp) : Prop := ∀ a o, G a = some o → ORel K H a o
section
variable {K : PySem.W.Frag} {G : WH} {H H' : Hp} {a p : Addr} {o o' : WO} {ho : HO}
theorem ORel.l {vs : List V} {ws : List W} (h : H a = some (.lst vs)) (r : Reps K H ws vs) : ORel K H a (.lst ws) := ⟨vs, h, r⟩
theorem ORel.dk {kvs : List (W × W)} {ks : List (Key × V)} (h : H a = some (.dK ks)) (r : Paired (fun (p : W × W) (q : Key × V) => p.1 = keyS q.1 ∧ Rep K H p.2 q.2) kvs ks) : ORel K H a (.dct false kvs) := ⟨ks, h, r⟩
theorem ORel.dt {kvs : List (W × W)} {ks : List (List Key × V)} (h : H a = some (.dT ks)) (r : Paired (fun (p : W × W) (q : List Key × V) => p.1 = .tup (q.1.map keyS) ∧ Rep K H p.2 q.2) kvs ks) : ORel K H a (.dct true kvs) := ⟨ks, h, r⟩
theorem ORel.i {C dx : Addr} {fs : List (Str × W)} {gs : List (Str × V)} (h : H a = some (.ins C dx gs)) (r : Paired (fun (p : Str × W) (q : Str × V) => p.1 = q.1 ∧ Rep K H p.2 q.2) fs gs) : ORel K H a (.ins C fs) := ⟨dx, gs, h, r⟩
theorem ORel.mut (h : ORel K H a o) : Mut (H a) := by
  cases o with
  | lst ws => obtain ⟨vs, e, _⟩ := h; rw [e]; exact True.intro
  | dct t kvs => cases t <;> (obtain ⟨vs, e, _⟩ := h; rw [e]; exact True.intro)
  | ins C fs => obtain ⟨dx, vs, e, _⟩ := h; rw [e]; exact True.intro
theorem ORel.keep (h : ORel K H a o) (e : H' a = H a) (t : TX H H') : ORel K H' a o := by
  cases o with
  | lst ws => obtain ⟨vs, q, r⟩ := h; exact ⟨vs, e.trans q, r.mono t⟩
  | dct b kvs =>
    cases b with
    | false => obtain ⟨vs, q, r⟩ := h; exact ⟨vs, e.trans q, Paired.mapP r fun _ _ z => ⟨z.1, z.2.mono t⟩⟩
    | true => obtain ⟨vs, q, r⟩ := h; exact ⟨vs, e.trans q, Paired.mapP r fun _ _ z => ⟨z.1, z.2.mono t⟩⟩
  | ins C fs => obtain ⟨dx, vs, q, r⟩ := h; exact ⟨dx, vs, e.trans q, Paired.mapP r fun _ _ z => ⟨z.1, z.2.mono t⟩⟩
theorem Sim.yes (s : Sim K G H) (e : G a = some o) : H a ≠ none := fun z => by
  have m := (s a o e).mut
  rw [z] at m; exact m
theorem Sim.no (s : Sim K G H) (e : H a = none) : G a = none := by
  cases q : G a with
  | none => rfl
  | some o => exact absurd e (s.yes q)
/-- a new object of the lower heap that the upper one does not name -/
theorem Sim.fresh (s : Sim K G H) (h : H p = none) : Sim K G (upd H p ho) := fun b u e =>
  (s b u e).keep (upd_ne fun z => s.yes e (by rw [z]; exact h)) (.fresh h)
theorem Sim.laid (s : Sim K G H) (h : H p = none) (new : ORel K (upd H p ho) p o) : Sim K (gup G p o) (upd H p ho) := fun b u e => by
  by_cases hb : b = p
  · subst hb; rw [gup_same] at e; cases e; exact new
  · rw [gup_ne hb] at e; exact s.fresh h b u e
theorem Sim.write (s : Sim K G H) (mu : Mut (H p)) (new : ORel K (upd H p ho) p o) : Sim K (gup G p o) (upd H p ho) := fun b u e => by
  by_cases hb : b = p
  · subst hb; rw [gup_same] at e; cases e; exact new
  · rw [gup_ne hb] at e; exact (s b u e).keep (upd_ne hb) (.write mu)
/-- fewer things named -/
theorem Sim.less {G' : WH} (s : Sim K G H) (h : ∀ b u, G' b = Option.some u → G b = Option.some u) : Sim K G' H := fun b u e => s b u (h b u e)
end

/-! ### the frame's values -/
abbrev St2 := List (Option W)
structure SimS (K : PySem.W.Frag) (H : Hp) (τ : St2) (σ : St) : Prop where
  len : τ.length = σ.length
  at' : ∀ (i : Nat) (w : W), τ[i]? = some (some w) → ∃ v, σ[i]? = some (some v) ∧ Rep K H w v
theorem SimS.mono {K : PySem.W.Frag} {H H' : Hp} {τ : St2} {σ : St} (s : SimS K H τ σ) (t : TX H H') : SimS K H' τ σ :=
  ⟨s.len, fun i w e => let ⟨v, a, b⟩ := s.at' i w e; ⟨v, a, b.mono t⟩⟩
theorem SimS.set {K : PySem.W.Frag} {H : Hp} {τ : St2} {σ : St} (s : SimS K H τ σ) {w : W} {v : V} (r : Rep K H w v) (i : Nat) : SimS K H (τ.set i (some w)) (σ.set i (some v)) := by
  refine ⟨by simp [s.len], fun j u e => ?_⟩
  by_cases hj : j = i
  · subst hj
    have hl : j < τ.length := by
      have := (List.getElem?_eq_some_iff.mp e).1
      simpa using this
    rw [List.getElem?_set_self hl] at e
    cases e
    exact ⟨v, List.getElem?_set_self (by rw [← s.len]; exact hl), r⟩
  · rw [List.getElem?_set_ne (Ne.symm hj)] at e
    obtain ⟨x, a, b⟩ := s.at' j u e
    exact ⟨x, by rw [List.getElem?_set_ne (Ne.symm hj)]; exact a, b⟩

/-! ### the upper readings, and how they lie over the lower ones -/
abbrev VK2 := W → WH → Prop
abbrev TE2 := St2 → WH → VK2 → Prop
abbrev TT2 := St2 → WH → (Bool → WH → Prop) → Prop
abbrev TA2 := St2 → WH → (List W → WH → Prop) → Prop
structure Ends2 where
  nx : St2 → WH → Prop
  rt : VK2
  bk : St2 → WH → Prop := fun _ _ => False
  ct : St2 → WH → Prop := fun _ _ => False
abbrev TS2 := Ends2 → St2 → WH → Prop
def Cont (K : PySem.W.Frag) (H : Hp) (Q2 : VK2) (Q : VK) : Prop := ∀ v H' w G', TX H H' → Sim K G' H' → Rep K H' w v → Q2 w G' → Q v H'
def ContB (K : PySem.W.Frag) (H : Hp) (Q2 : Bool → WH → Prop) (Q : Bool → Hp → Prop) : Prop := ∀ b H' G', TX H H' → Sim K G' H' → Q2 b G' → Q b H'
def ContA (K : PySem.W.Frag) (H : Hp) (Q2 : List W → WH → Prop) (Q : List V → Hp → Prop) : Prop := ∀ vs H' ws G', TX H H' → Sim K G' H' → Reps K H' ws vs → Q2 ws G' → Q vs H'
def ContS (K : PySem.W.Frag) (H : Hp) (Q2 : St2 → WH → Prop) (Q : St → Hp → Prop) : Prop := ∀ σ' H' τ' G', TX H H' → SimS K H' τ' σ' → Sim K G' H' → Q2 τ' G' → Q σ' H'
structure EndsLe (K : PySem.W.Frag) (H : Hp) (D2 : Ends2) (D : Ends) : Prop where
  nx : ContS K H D2.nx D.nx
  rt : Cont K H D2.rt D.rt
  bk : ContS K H D2.bk D.bk
  ct : ContS K H D2.ct D.ct
section
variable {K : PySem.W.Frag} {H H' : Hp}
theorem Cont.mono {Q2 : VK2} {Q : VK} (c : Cont K H Q2 Q) (t : TX H H') : Cont K H' Q2 Q := fun v H1 w G1 t1 => c v H1 w G1 (t.trans t1)
theorem ContB.mono {Q2 : Bool → WH → Prop} {Q : Bool → Hp → Prop} (c : ContB K H Q2 Q) (t : TX H H') : ContB K H' Q2 Q := fun b H1 G1 t1 => c b H1 G1 (t.trans t1)
theorem ContA.mono {Q2 : List W → WH → Prop} {Q : List V → Hp → Prop} (c : ContA K H Q2 Q) (t : TX H H') : ContA K H' Q2 Q := fun v H1 w G1 t1 => c v H1 w G1 (t.trans t1)
theorem ContS.mono {Q2 : St2 → WH → Prop} {Q : St → Hp → Prop} (c : ContS K H Q2 Q) (t : TX H H') : ContS K H' Q2 Q := fun v H1 w G1 t1 => c v H1 w G1 (t.trans t1)
theorem EndsLe.mono {D2 : Ends2} {D : Ends} (c : EndsLe K H D2 D) (t : TX H H') : EndsLe K H' D2 D := ⟨c.nx.mono t, c.rt.mono t, c.bk.mono t, c.ct.mono t⟩
end
def low (K : PySem.W.Frag) (t : TE2) : TE := fun σ H Q => ∃ τ G Q2, SimS K H τ σ ∧ Sim K G H ∧ t τ G Q2 ∧ Cont K H Q2 Q
def lowT (K : PySem.W.Frag) (t : TT2) : TT := fun σ H Q => ∃ τ G Q2, SimS K H τ σ ∧ Sim K G H ∧ t τ G Q2 ∧ ContB K H Q2 Q
def lowA (K : PySem.W.Frag) (t : TA2) : TA := fun σ H Q => ∃ τ G Q2, SimS K H τ σ ∧ Sim K G H ∧ t τ G Q2 ∧ ContA K H Q2 Q
def lowS (K : PySem.W.Frag) (t : TS2) : TS := fun D σ H => ∃ τ G D2, SimS K H τ σ ∧ Sim K G H ∧ t D2 τ G ∧ EndsLe K H D2 D
def PE2 (X : Cx) (e : Expr) (t : TE2) : Prop := PE X e (low X.K t)
def PT2 (X : Cx) (e : Expr) (t : TT2) : Prop := PT X e (lowT X.K t)
def PW2 (X : Cx) (e : Expr) (t : TT2) : Prop := PW X e (lowT X.K t)
def PA2 (X : Cx) (es : List Expr) (t : TA2) : Prop := PA X es (lowA X.K t)
def PS2 (X : Cx) (st : Stmt) (t : TS2) : Prop := PS X st (lowS X.K t)
def PSs2 (X : Cx) (st : List Stmt) (t : TS2) : Prop := PSs X st (lowS X.K t)
section
variable {X : Cx} {e : Expr} {es : List Expr} {st : Stmt} {sts : List Stmt}
theorem PE.imp {t t' : TE} (h : PE X e t) (le : ∀ σ H Q, t' σ H Q → t σ H Q) : PE X e t' := fun pins s σ H Q I q => h pins s σ H Q I (le σ H Q q)
theorem PT.imp {t t' : TT} (h : PT X e t) (le : ∀ σ H Q, t' σ H Q → t σ H Q) : PT X e t' := fun pins s σ H Q I q => h pins s σ H Q I (le σ H Q q)
theorem PW.imp {t t' : TT} (h : PW X e t) (le : ∀ σ H Q, t' σ H Q → t σ H Q) : PW X e t' := fun wh pins s σ H Q I q => h wh pins s σ H Q I (le σ H Q q)
theorem PA.imp {t t' : TA} (h : PA X es t) (le : ∀ σ H Q, t' σ H Q → t σ H Q) : PA X es t' := fun pos pins s σ H Q I q => h pos pins s σ H Q I (le σ H Q q)
theorem PS.imp {t t' : TS} (h : PS X st t) (le : ∀ D σ H, t' D σ H → t D σ H) : PS X st t' := fun pins s σ H D I q => h pins s σ H D I (le D σ H q)
theorem PSs.imp {t t' : TS} (h : PSs X sts t) (le : ∀ D σ H, t' D σ H → t D σ H) : PSs X sts t' := fun pins s σ H D I q => h pins s σ H D I (le D σ H q)
theorem PW2.pt {t : TT2} (h : PW2 X e t) : PT2 X e t := PW.pt h
end
end L3

set_option Elab.async false
set_option linter.all false
set_option maxRecDepth 100000
namespace L3
open PySem PySem.Spec L2
open PyProof.Rows hiding St

/-! ### equality as Python has it, over trees -/
mutual
def eqD : W → W → Bool
  | .bl a, .bl b => a == b
  | .bl a, .int b => (if a then 1 else 0) == b
  | .int a, .bl b => a == (if b then 1 else 0)
  | .int a, .int b => a == b
  | .tup a, .tup b => eqDs a b
  | .lst a, .lst b => eqDs a b
  | .non, .non => true
  | .str a, .str b => a == b
  | .ref a, .ref b => a == b
  | .ty a, .ty b => a == b
  | .scr a, .scr b => eqDs a b
  | _, _ => false
def eqDs : List W → List W → Bool
  | [], [] => true
  | a :: x, b :: y => eqD a b && eqDs x y
  | _, _ => false
end
mutual
theorem eqD_refl : ∀ a : W, eqD a a = true
  | .non => by simp [eqD]
  | .bl _ => by simp [eqD]
  | .int _ => by simp [eqD]
  | .str _ => by simp [eqD]
  | .ref _ => by simp [eqD]
  | .ty _ => by simp [eqD]
  | .tup a => by rw [eqD]; exact eqDs_refl a
  | .scr a => by rw [eqD]; exact eqDs_refl a
  | .lst a => by rw [eqD]; exact eqDs_refl a
theorem eqDs_refl : ∀ a : List W, eqDs a a = true
  | [] => by simp [eqDs]
  | a :: x => by rw [eqDs, eqD_refl a, eqDs_refl x]; rfl
end
theorem eqDs_len : ∀ {a b : List W}, a.length ≠ b.length → eqDs a b = false
  | [], [], h => absurd rfl h
  | [], _ :: _, _ => by simp [eqDs]
  | _ :: _, [], _ => by simp [eqDs]
  | a :: x, b :: y, h => by rw [eqDs, eqDs_len (a := x) (b := y) (by intro z; exact h (by simp [z])), Bool.and_false]
theorem eqDs_range : ∀ (a b : List W) (e : Nat → Bool), a.length = b.length → (∀ (i : Nat) x y, a[i]? = some x → b[i]? = some y → e i = eqD x y) → (List.range a.length).all e = eqDs a b
  | [], [], _, _, _ => by simp [eqDs]
  | [], _ :: _, _, h, _ => by simp at h
  | _ :: _, [], _, h, _ => by simp at h
  | a :: x, b :: y, e, h, q => by
    have ih := eqDs_range x y (fun i => e (i + 1)) (by simpa using h) fun i u v hu hv => q (i + 1) u v (by simpa using hu) (by simpa using hv)
    rw [eqDs, ← ih, ← q 0 a b rfl rfl, List.length_cons, List.range_succ_eq_map, List.all_cons, List.all_map]
    rfl

mutual
inductive DV (h : Heap) : W → Value → Prop
  | non : DV h .non .none
  | bl (b : Bool) : DV h (.bl b) (.bool b)
  | int (i : Int) (t : Tok) : DV h (.int i) (.int i t)
  | str (x : Str) (t : Tok) : DV h (.str x) (.str x t)
  | tup {a : Addr} {its : List Value} {ws : List W} : h.IsTuple a its.toArray → DVs h ws its → DV h (.tup ws) (.ref a)
  | lst {a : Addr} {its : List Value} {ws : List W} : h.IsList a its.toArray → DVs h ws its → DV h (.lst ws) (.ref a)
inductive DVs (h : Heap) : List W → List Value → Prop
  | nil : DVs h [] []
  | cons {w : W} {v : Value} {ws : List W} {vs : List Value} : DV h w v → DVs h ws vs → DVs h (w :: ws) (v :: vs)
end
theorem isTuple_inj {h : Heap} {a : Addr} {x y : List Value} (p : h.IsTuple a x.toArray) (q : h.IsTuple a y.toArray) : x = y := by
  obtain ⟨o, e, _, n, d⟩ := p
  obtain ⟨o', e', _, n', d'⟩ := q
  rw [e] at e'; cases e'
  rw [d] at d'; injection d' with d1 _
  simpa using congrArg Array.toList d1
theorem isList_inj {h : Heap} {a : Addr} {x y : List Value} (p : h.IsList a x.toArray) (q : h.IsList a y.toArray) : x = y := by
  obtain ⟨o, e, _, n, d⟩ := p
  obtain ⟨o', e', _, n', d'⟩ := q
  rw [e] at e'; cases e'
  rw [d] at d'; injection d' with d1 _
  simpa using congrArg Array.toList d1
theorem not_both {h : Heap} {a : Addr} {x y : Array Value} (p : h.IsTuple a x) (q : h.IsList a y) : False := by
  obtain ⟨o, e, c, _⟩ := p
  obtain ⟨o', e', c', _⟩ := q
  rw [e] at e'; cases e'
  rw [c] at c'
  injection c' with c''
  revert c''; decide
mutual
theorem DV.inj {h : Heap} : ∀ {d e : W} {u : Value}, DV h d u → DV h e u → d = e
  | _, _, _, .non, .non => rfl
  | _, _, _, .bl _, .bl _ => rfl
  | _, _, _, .int _ _, .int _ _ => rfl
  | _, _, _, .str _ _, .str _ _ => rfl
  | _, _, _, .tup p r, .tup q r' => by cases isTuple_inj p q; rw [DVs.inj r r']
  | _, _, _, .lst p r, .lst q r' => by cases isList_inj p q; rw [DVs.inj r r']
  | _, _, _, .tup p _, .lst q _ => (not_both p q).elim
  | _, _, _, .lst p _, .tup q _ => (not_both q p).elim
theorem DVs.inj {h : Heap} : ∀ {d e : List W} {u : List Value}, DVs h d u → DVs h e u → d = e
  | _, _, _, .nil, .nil => rfl
  | _, _, _, .cons a x, .cons b y => by rw [DV.inj a b, DVs.inj x y]
end
theorem DVs.length {h : Heap} : ∀ {ws : List W} {vs : List Value}, DVs h ws vs → ws.length = vs.length
  | _, _, .nil => rfl
  | _, _, .cons _ b => by simp [DVs.length b]
theorem DVs.get' {h : Heap} : ∀ {ws : List W} {vs : List Value} {i : Nat} {v : Value}, DVs h ws vs → vs[i]? = some v → ∃ w, ws[i]? = some w ∧ DV h w v
  | _, _, _, _, .nil, e => by simp at e
  | _, _, 0, _, .cons r _, e => by simp at e; subst e; exact ⟨_, rfl, r⟩
  | _, _, i + 1, w, .cons _ t, e => by
    obtain ⟨u, h1, h2⟩ := DVs.get' (i := i) (v := w) t (by simpa using e)
    exact ⟨u, by simpa using h1, h2⟩
theorem DVs.get {h : Heap} : ∀ {ws : List W} {vs : List Value} {i : Nat} {w : W}, DVs h ws vs → ws[i]? = some w → ∃ v, vs[i]? = some v ∧ DV h w v
  | _, _, _, _, .nil, e => by simp at e
  | _, _, 0, _, .cons r _, e => by simp at e; subst e; exact ⟨_, rfl, r⟩
  | _, _, i + 1, w, .cons _ t, e => by
    obtain ⟨u, h1, h2⟩ := DVs.get (i := i) (w := w) t (by simpa using e)
    exact ⟨u, by simpa using h1, h2⟩
/-- how deep a tree is -/
inductive Dep : Nat → W → Prop
  | flat {n : Nat} {w : W} (h : ∀ ws, w ≠ .tup ws ∧ w ≠ .lst ws) : Dep n w
  | tup {n : Nat} {ws : List W} (h : ∀ w ∈ ws, Dep n w) : Dep (n + 1) (.tup ws)
  | lst {n : Nat} {ws : List W} (h : ∀ w ∈ ws, Dep n w) : Dep (n + 1) (.lst ws)
theorem units_in1 (A : Around) : A.in1.units = A.units + 1 := rfl

/-- two trees of the same kind of seq: what is left of both comparisons -/
structure Both (A : Around) (s : Shared) (u v : Value) (b : Bool) : Prop where
  eq : SeqAt.EqAt A s u v b
  rc : SeqAt.RcAt A s u v b
  ne : SeqAt.RcNeAt A s u v (!b)
theorem range_min_eq {α β : Type} {a : List α} {b : List β} (e : Nat → Bool) (h : a.length = b.length) : ((List.range (min a.length b.length)).all e && (a.length == b.length)) = (List.range a.length).all e := by
  rw [h]; simp
section
variable {A : Around} {s : Shared}
theorem both_tup {a b : Addr} {x y : List Value} {ds es : List W} (p : s.heap.IsTuple a x.toArray) (q : s.heap.IsTuple b y.toArray) (rx : DVs s.heap ds x) (ry : DVs s.heap es y) (hu : A.units < cLine)
    (ih : ∀ d e u v, d ∈ ds → DV s.heap d u → DV s.heap e v → SeqAt.EqAt A.in1 s u v (eqD d e)) : Both A s (.ref a) (.ref b) (eqDs ds es) := by
  have hx := rx.length
  have hy := ry.length
  have pick : ∀ j (h1 : j < x.length) (h2 : j < y.length), ∃ d e, ds[j]? = some d ∧ es[j]? = some e ∧ SeqAt.EqAt A.in1 s x[j] y[j] (eqD d e) := fun j h1 h2 => by
    obtain ⟨d, hd, rd⟩ := rx.get' (i := j) (v := x[j]) (by simp [h1])
    obtain ⟨e, he, re⟩ := ry.get' (i := j) (v := y[j]) (by simp [h2])
    exact ⟨d, e, hd, he, ih d e _ _ (List.mem_of_getElem? hd) rd re⟩
  let f : Nat → Bool := fun j => match ds[j]?, es[j]? with | some d, some e => eqD d e | _, _ => true
  have hf : ∀ (i : Nat) d e, ds[i]? = some d → es[i]? = some e → f i = eqD d e := fun i d e h1 h2 => by simp only [f, h1, h2]
  have he : ∀ j (h1 : j < x.toArray.size) (h2 : j < y.toArray.size), SeqAt.EqAt A.in1 s x.toArray[j] y.toArray[j] (f j) := fun j h1 h2 => by
    obtain ⟨d, e, hd, he, q⟩ := pick j (by simpa using h1) (by simpa using h2)
    rw [hf j d e hd he]
    simpa using q
  have key : ((List.range (min x.toArray.size y.toArray.size)).all f && x.toArray.size == y.toArray.size) = eqDs ds es := by
    simp only [List.size_toArray]
    by_cases hl : ds.length = es.length
    · have hxy : x.length = y.length := by omega
      rw [range_min_eq f hxy, ← hx]
      exact eqDs_range ds es f hl hf
    · rw [eqDs_len hl]
      have : (x.length == y.length) = false := by simp; omega
      rw [this, Bool.and_false]
  by_cases hab : a = b
  · subst hab
    cases isTuple_inj p q
    cases rx.inj ry
    rw [eqDs_refl] at key ⊢
    have r1 := SeqAt.RcAt.tuples p q hu he
    have r2 := SeqAt.RcNeAt.tuples p q hu he
    rw [key] at r1 r2
    exact ⟨.same _, r1, r2⟩
  · have r1 := SeqAt.RcAt.tuples p q hu he
    have r2 := SeqAt.RcNeAt.tuples p q hu he
    rw [key] at r1 r2
    exact ⟨.of_refs hab r1, r1, r2⟩
theorem both_lst {a b : Addr} {x y : List Value} {ds es : List W} (p : s.heap.IsList a x.toArray) (q : s.heap.IsList b y.toArray) (rx : DVs s.heap ds x) (ry : DVs s.heap es y) (hu : A.units < cLine)
    (ih : ∀ d e u v, d ∈ ds → DV s.heap d u → DV s.heap e v → SeqAt.EqAt A.in1 s u v (eqD d e)) : Both A s (.ref a) (.ref b) (eqDs ds es) := by
  have hx := rx.length
  have hy := ry.length
  let f : Nat → Bool := fun j => match ds[j]?, es[j]? with | some d, some e => eqD d e | _, _ => true
  have hf : ∀ (i : Nat) d e, ds[i]? = some d → es[i]? = some e → f i = eqD d e := fun i d e h1 h2 => by simp only [f, h1, h2]
  have he : ∀ j (h1 : j < x.toArray.size) (h2 : j < y.toArray.size), SeqAt.EqAt A.in1 s x.toArray[j] y.toArray[j] (f j) := fun j h1 h2 => by
    have h1' : j < x.length := by simpa using h1
    have h2' : j < y.length := by simpa using h2
    obtain ⟨d, hd, rd⟩ := rx.get' (i := j) (v := x[j]) (by simp [h1'])
    obtain ⟨e, he, re⟩ := ry.get' (i := j) (v := y[j]) (by simp [h2'])
    rw [hf j d e hd he]
    simpa using ih d e _ _ (List.mem_of_getElem? hd) rd re
  have main : SeqAt.RcAt A s (.ref a) (.ref b) (eqDs ds es) ∧ SeqAt.RcNeAt A s (.ref a) (.ref b) (!eqDs ds es) := by
    by_cases hl : ds.length = es.length
    · have hs : x.toArray.size = y.toArray.size := by simp only [List.size_toArray]; omega
      have key : (List.range x.toArray.size).all f = eqDs ds es := by
        simp only [List.size_toArray, ← hx]
        exact eqDs_range ds es f hl hf
      have r1 := SeqAt.RcAt.lists p q hs hu he
      have r2 := SeqAt.RcNeAt.lists p q hs hu he
      rw [key] at r1 r2
      exact ⟨r1, r2⟩
    · have hs : (x.toArray.size != y.toArray.size) = true := by simp; omega
      rw [eqDs_len hl]
      exact ⟨SeqAt.RcAt.lists_lengths p q hs hu, SeqAt.RcNeAt.lists_lengths p q hs hu⟩
  by_cases hab : a = b
  · subst hab
    cases isList_inj p q
    cases rx.inj ry
    refine ⟨?_, main.1, main.2⟩
    rw [eqDs_refl]
    exact .same _
  · exact ⟨.of_refs hab main.1, main.1, main.2⟩
end
theorem both_deep (s : Shared) : ∀ (n : Nat) (A : Around) (d e : W) (u v : Value), Dep n d → DV s.heap d u → DV s.heap e v → A.units + n < cLine → Both A s u v (eqD d e) := by
  intro n
  induction n with
  | zero =>
    intro A d e u v hd ru rv hu
    have hu' : A.units < cLine := by omega
    cases ru with
    | non => cases rv with
      | non => exact ⟨.same _, .none_none, .none_none⟩
      | bl b => exact ⟨.none_bool b, .none_bool b, .none_bool b⟩
      | int i t => exact ⟨.none_int i t, .none_int i t, .none_int i t⟩
      | str x t => exact ⟨.none_str x t, .none_str x t, .none_str x t⟩
      | tup p _ => exact ⟨.none_tuple p hu', .none_tuple p hu', .none_tuple p hu'⟩
      | lst p _ => exact ⟨.none_list p hu', .none_list p hu', .none_list p hu'⟩
    | bl a => cases rv with
      | non => exact ⟨.bool_none a, .bool_none a, .bool_none a⟩
      | bl b => exact ⟨.bool_bool a b, .bool_bool a b, .bool_bool a b⟩
      | int i t => exact ⟨.bool_int a i t, .bool_int a i t, .bool_int a i t⟩
      | str x t => exact ⟨.bool_str a x t, .bool_str a x t, .bool_str a x t⟩
      | tup p _ => exact ⟨.bool_tuple a p hu', .bool_tuple a p hu', .bool_tuple a p hu'⟩
      | lst p _ => exact ⟨.bool_list a p hu', .bool_list a p hu', .bool_list a p hu'⟩
    | int a ta => cases rv with
      | non => exact ⟨.int_none a ta, .int_none a ta, .int_none a ta⟩
      | bl b => exact ⟨.int_bool a ta b, .int_bool a ta b, .int_bool a ta b⟩
      | int i t => exact ⟨.int_int a ta i t, .int_int a ta i t, .int_int a ta i t⟩
      | str x t => exact ⟨.int_str a ta x t, .int_str a ta x t, .int_str a ta x t⟩
      | tup p _ => exact ⟨.int_tuple a ta p hu', .int_tuple a ta p hu', .int_tuple a ta p hu'⟩
      | lst p _ => exact ⟨.int_list a ta p hu', .int_list a ta p hu', .int_list a ta p hu'⟩
    | str a ta => cases rv with
      | non => exact ⟨.str_none a ta, .str_none a ta, .str_none a ta⟩
      | bl b => exact ⟨.str_bool a ta b, .str_bool a ta b, .str_bool a ta b⟩
      | int i t => exact ⟨.str_int a ta i t, .str_int a ta i t, .str_int a ta i t⟩
      | str x t => exact ⟨.str_str a ta x t, .str_str a ta x t, .str_str a ta x t⟩
      | tup p _ => exact ⟨.str_tuple a ta p hu', .str_tuple a ta p hu', .str_tuple a ta p hu'⟩
      | lst p _ => exact ⟨.str_list a ta p hu', .str_list a ta p hu', .str_list a ta p hu'⟩
    | tup p _ => cases hd with | flat h => exact absurd rfl (h _).1
    | lst p _ => cases hd with | flat h => exact absurd rfl (h _).2
  | succ n ih =>
    intro A d e u v hd ru rv hu
    have hu' : A.units < cLine := by omega
    have flat : (∀ ws, d ≠ .tup ws ∧ d ≠ .lst ws) → Both A s u v (eqD d e) := fun h => ih A d e u v (.flat h) ru rv (by omega)
    cases ru with
    | non => exact flat fun ws => ⟨(nomatch ·), (nomatch ·)⟩
    | bl a => exact flat fun ws => ⟨(nomatch ·), (nomatch ·)⟩
    | int a ta => exact flat fun ws => ⟨(nomatch ·), (nomatch ·)⟩
    | str a ta => exact flat fun ws => ⟨(nomatch ·), (nomatch ·)⟩
    | @tup a its ds p r =>
      have hd' : ∀ w ∈ ds, Dep n w := by
        cases hd with
        | flat h => exact absurd rfl (h _).1
        | tup h => exact h
      cases rv with
      | non => exact ⟨.tuple_none p hu', .tuple_none p hu', .tuple_none p hu'⟩
      | bl b => exact ⟨.tuple_bool b p hu', .tuple_bool b p hu', .tuple_bool b p hu'⟩
      | int i t => exact ⟨.tuple_int i t p hu', .tuple_int i t p hu', .tuple_int i t p hu'⟩
      | str x t => exact ⟨.tuple_str x t p hu', .tuple_str x t p hu', .tuple_str x t p hu'⟩
      | tup q r' =>
        rw [eqD]
        exact both_tup p q r r' hu' fun d e u v hm a b => (ih A.in1 d e u v (hd' d hm) a b (by rw [units_in1]; omega)).eq
      | lst q r' => exact ⟨.tuple_list p q hu', .tuple_list p q hu', .tuple_list p q hu'⟩
    | @lst a its ds p r =>
      have hd' : ∀ w ∈ ds, Dep n w := by
        cases hd with
        | flat h => exact absurd rfl (h _).2
        | lst h => exact h
      cases rv with
      | non => exact ⟨.list_none p hu', .list_none p hu', .list_none p hu'⟩
      | bl b => exact ⟨.list_bool b p hu', .list_bool b p hu', .list_bool b p hu'⟩
      | int i t => exact ⟨.list_int i t p hu', .list_int i t p hu', .list_int i t p hu'⟩
      | str x t => exact ⟨.list_str x t p hu', .list_str x t p hu', .list_str x t p hu'⟩
      | tup q r' => exact ⟨.list_tuple p q hu', .list_tuple p q hu', .list_tuple p q hu'⟩
      | lst q r' =>
        rw [eqD]
        exact both_lst p q r r' hu' fun d e u v hm a b => (ih A.in1 d e u v (hd' d hm) a b (by rw [units_in1]; omega)).eq

/-! ### what a value stands for -/
mutual
inductive Den (G : WH) : W → W → Prop
  | non : Den G .non .non
  | bl (b : Bool) : Den G (.bl b) (.bl b)
  | int (i : Int) : Den G (.int i) (.int i)
  | str (x : Str) : Den G (.str x) (.str x)
  | tup {ws ds : List W} : Dens G ws ds → Den G (.tup ws) (.tup ds)
  | scr {ws ds : List W} : Dens G ws ds → Den G (.scr ws) (.lst ds)
  | ref {a : Addr} {ws ds : List W} : G a = some (.lst ws) → Dens G ws ds → Den G (.ref a) (.lst ds)
inductive Dens (G : WH) : List W → List W → Prop
  | nil : Dens G [] []
  | cons {w d : W} {ws ds : List W} : Den G w d → Dens G ws ds → Dens G (w :: ws) (d :: ds)
end
section
variable {X : Cx} {pins : List (Addr × Obj)} {σ : St} {H : Hp} {s : Shared} {G : WH}
mutual
theorem Den.dv (I : Inv X pins σ H s) (S : Sim X.K G H) : ∀ {w d : W} {x : V} {u : Value}, Den G w d → Rep X.K H w x → RelV x u → DV s.heap d u
  | _, _, _, _, .non, .non, ru => by cases ru; exact .non
  | _, _, _, _, .bl b, .bl _, ru => by cases ru; exact .bl b
  | _, _, _, _, .int i, .int _, ru => by obtain ⟨t, rfl⟩ := ru; exact .int i t
  | _, _, _, _, .str x, .str _, ru => by obtain ⟨t, rfl⟩ := ru; exact .str x t
  | _, _, _, _, .tup r, .tup ht rv, ru => by
    cases ru
    obtain ⟨its, vv, p, _⟩ := I.tuple ht.sq
    exact .tup p (Dens.dv I S r rv vv)
  | _, _, _, _, .scr r, .scr ht rv, ru => by
    cases ru
    obtain ⟨its, vv, p, _⟩ := I.list ht.sq
    exact .lst p.isList (Dens.dv I S r rv vv)
  | _, _, _, _, .ref (a := a) e r, rr, ru => by
    cases rr
    cases ru
    obtain ⟨vs, hv, rv⟩ := S _ _ e
    obtain ⟨its, vv, p, _⟩ := I.list (.of hv)
    exact .lst p.isList (Dens.dv I S r rv vv)
theorem Dens.dv (I : Inv X pins σ H s) (S : Sim X.K G H) : ∀ {ws ds : List W} {xs : List V} {us : List Value}, Dens G ws ds → Reps X.K H ws xs → Vals xs us → DVs s.heap ds us
  | _, _, _, _, .nil, .nil, .nil => .nil
  | _, _, _, _, .cons a x, .cons b y, .cons c z => .cons (Den.dv I S a b c) (Dens.dv I S x y z)
end
end
theorem Dens.paired {G : WH} : ∀ {ws ds : List W}, Dens G ws ds → Paired (Den G) ws ds
  | _, _, .nil => .nil
  | _, _, .cons a b => .cons a b.paired
theorem Dens.of {G : WH} : ∀ {ws ds : List W}, Paired (Den G) ws ds → Dens G ws ds
  | _, _, .nil => .nil
  | _, _, .cons a b => .cons a (Dens.of b)
theorem Dens.map {α : Type} {G : WH} {f g : α → W} : ∀ {l : List α}, (∀ a ∈ l, Den G (f a) (g a)) → Dens G (l.map f) (l.map g)
  | [], _ => .nil
  | a :: l, h => .cons (h a List.mem_cons_self) (Dens.map fun b hb => h b (List.mem_cons_of_mem _ hb))
end L3

set_option Elab.async false
set_option linter.all false
set_option maxRecDepth 100000
namespace L3
open PySem PySem.Spec L2
open PyProof.Rows hiding St

abbrev R22 := W → W → WH → VK2 → Prop
def lowR (K : PySem.W.Frag) (r : R22) : R2 := fun x y H Q => ∃ w w' G Q2, Sim K G H ∧ Rep K H w x ∧ Rep K H w' y ∧ r w w' G Q2 ∧ Cont K H Q2 Q
def OpR2 (X : Cx) (f : Value → Value → Sem Value) (r : R22) : Prop := OpR X f (lowR X.K r)
def uOp (r : R22) (ta tb : TE2) : TE2 := fun τ G Q => ta τ G fun x G1 => tb τ G1 fun y G2 => r x y G2 Q
theorem low_op {K : PySem.W.Frag} {r : R22} {ta tb : TE2} (σ : St) (H : Hp) (Q : VK) (h : low K (uOp r ta tb) σ H Q) : tOp (lowR K r) (low K ta) (low K tb) σ H Q := by
  obtain ⟨τ, G, Q2, hs, hg, ht, hc⟩ := h
  refine ⟨τ, G, _, hs, hg, ht, fun x H1 w G1 t1 s1 r1 h1 => ?_⟩
  refine ⟨τ, G1, _, hs.mono t1, s1, h1, fun y H2 w' G2 t2 s2 r2 h2 => ?_⟩
  exact ⟨w, w', G2, Q2, s2, r1.mono t2, r2, h2, hc.mono (t1.trans t2)⟩
theorem OpR.imp {X : Cx} {f : Value → Value → Sem Value} {r r' : R2} (h : OpR X f r) (le : ∀ x y H Q, r' x y H Q → r x y H Q) : OpR X f r' := fun pins s σ H x y v u Q I rx ry q => h pins s σ H x y v u Q I rx ry (le x y H Q q)

section
variable {X : Cx} {a b e : Expr} {ta tb te : TE2} {pos : Pos}
/-! ### names and constants -/
def uVar (i : Nat) : TE2 := fun τ G Q => match τ[i]? with
  | some (some w) => Q w G
  | _ => False
def uC (w : W) : TE2 := fun _ G Q => Q w G
theorem e_var (i : Nat) {x : Str} (hN : X.N[i]? = some x := by rfl) (hv : Vis X.env.scope x := by first | exact Or.inl rfl | exact Or.inr (Or.inl rfl) | exact Or.inr (Or.inr rfl)) (hd : (x == ("__debug__" : Str)) = false := by decide)
    (hcd : (x == ("__classdict__" : Str)) = false := by decide) : PE2 X (.Name x pos) (uVar i) :=
  PE.imp (pe_var hN hv hd hcd) fun σ H Q ⟨τ, G, Q2, hs, hg, ht, hc⟩ => by
    unfold uVar at ht
    split at ht
    · rename_i w e
      obtain ⟨v, e1, r⟩ := hs.at' i w e
      exact ⟨v, e1, hc v H w G (.refl H) hg r ht⟩
    · exact ht.elim
theorem e_const {v : V} {w : W} (h : PE X e (tC v)) (r : ∀ H, Rep X.K H w v) : PE2 X e (uC w) :=
  PE.imp h fun σ H Q ⟨τ, G, Q2, hs, hg, ht, hc⟩ => hc v H w G (.refl H) hg (r H) ht
theorem e_int {i j} : PE2 X (.Constant (.int i) j pos) (uC (.int i)) := e_const pe_int fun _ => .int i
theorem e_bl {k j} : PE2 X (.Constant (.bool k) j pos) (uC (.bl k)) := e_const pe_bl fun _ => .bl k
theorem e_non {j} : PE2 X (.Constant .none j pos) (uC .non) := e_const pe_non fun _ => .non
theorem e_str {x j} : PE2 X (.Constant (.str x) j pos) (uC (.str x)) := e_const pe_str fun _ => .str x
/-- a name of the module -/
theorem e_glob {x : Str} {v : V} {u : Value} {w : W} (hg : Gl X x) (hm : X.mg x = some u) (r : RelV v u) (rw : ∀ H, Rep X.K H w v) (hd : (x == ("__debug__" : Str)) = false := by decide) : PE2 X (.Name x pos) (uC w) := e_const (pe_glob hg hm r hd) rw

/-! ### operators -/
theorem e_op {op : Operator} {r : R22} (ho : OpR2 X (binaryOp op) r) (ha : PE2 X a ta) (hb : PE2 X b tb) : PE2 X (.BinOp a op b pos) (uOp r ta tb) := PE.imp (pe_op ho ha hb) low_op
theorem e_cmp {op : CmpOp} {r : R22} (ho : OpR2 X (compareOp op) r) (ha : PE2 X a ta) (hb : PE2 X b tb) (hm : behindInMarks op b = false) : PE2 X (.Compare a [op] [b] pos) (uOp r ta tb) := PE.imp (pe_cmpR ho ha hb hm) low_op
def uTest (t : TE2) : TT2 := fun τ G Q => t τ G fun w G' => match w with
  | .bl k => Q k G'
  | _ => False
theorem low_test {K : PySem.W.Frag} {t2 : TE2} {t : TE} (le : ∀ σ H Q, low K t2 σ H Q → t σ H Q) (σ : St) (H : Hp) (Q : Bool → Hp → Prop) (h : lowT K (uTest t2) σ H Q) : tTest t σ H Q := by
  obtain ⟨τ, G, Q2, hs, hg, ht, hc⟩ := h
  refine le σ H _ ⟨τ, G, _, hs, hg, ht, fun v H' w G' t1 s1 r1 h1 => ?_⟩
  cases w with
  | bl k => cases r1; exact ⟨k, rfl, hc k H' G' t1 s1 h1⟩
  | _ => exact False.elim h1
theorem t_cmp {op : CmpOp} {r : R22} (ho : OpR2 X (compareOp op) r) (ha : PE2 X a ta) (hb : PE2 X b tb) (hm : behindInMarks op b = false) : PT2 X (.Compare a [op] [b] pos) (uTest (uOp r ta tb)) := PT.imp (pt_cmpR ho ha hb hm) (low_test low_op)
theorem t_val (h : PE2 X e te) (he : ∀ whole, isTrue e X.env whole = (do let v ← whole; standAt e.pos; holding [v] (truthy v)) := by intro _; rfl) : PT2 X e (uTest te) :=
  PT.imp (pt_val h he) (low_test fun _ _ _ q => q)

/-! ### ints -/
def i2 (C : Int → Int → Prop) (g : Int → Int → W) : R22 := fun x y G Q => match x, y with
  | .int i, .int j => C i j ∧ Q (g i j) G
  | _, _ => False
theorem op2_int {f : Value → Value → Sem Value} {C : Int → Int → Prop} {g : Int → Int → V} {g2 : Int → Int → W} (h : OpR X f (rI C g)) (hg : ∀ H i j, Rep X.K H (g2 i j) (g i j)) : OpR2 X f (i2 C g2) :=
  OpR.imp h fun x y H Q ⟨w, w', G, Q2, S, rx, ry, q, c⟩ => by
    cases w <;> cases w' <;> first | exact False.elim q | skip
    cases rx; cases ry
    exact ⟨_, _, rfl, rfl, q.1, c _ H _ G (.refl H) S (hg H _ _) q.2⟩
theorem op2_int0 {f : Value → Value → Sem Value} {g : Int → Int → V} {g2 : Int → Int → W} (h : OpR X f (rI0 g)) (hg : ∀ H i j, Rep X.K H (g2 i j) (g i j)) : OpR2 X f (i2 (fun _ _ => True) g2) :=
  OpR.imp h fun x y H Q ⟨w, w', G, Q2, S, rx, ry, q, c⟩ => by
    cases w <;> cases w' <;> first | exact False.elim q | skip
    cases rx; cases ry
    exact ⟨_, _, rfl, rfl, c _ H _ G (.refl H) S (hg H _ _) q.2⟩
def i20 (g : Int → Int → W) : R22 := fun x y G Q => match x, y with
  | .int i, .int j => Q (g i j) G
  | _, _ => False
theorem op2_int1 {f : Value → Value → Sem Value} {g : Int → Int → V} {g2 : Int → Int → W} (h : OpR X f (rI0 g)) (hg : ∀ H i j, Rep X.K H (g2 i j) (g i j)) : OpR2 X f (i20 g2) :=
  OpR.imp h fun x y H Q ⟨w, w', G, Q2, S, rx, ry, q, c⟩ => by
    cases w <;> cases w' <;> first | exact False.elim q | skip
    cases rx; cases ry
    exact ⟨_, _, rfl, rfl, c _ H _ G (.refl H) S (hg H _ _) q⟩
def iSub : R22 := i20 fun i j => .int (i - j)
def iDiv : R22 := i2 CDiv fun i j => .int (i / j)
def iMod : R22 := i2 (fun _ j => 0 < j) fun i j => .int (i % j)
def iPow : R22 := i2 CPow fun i j => .int (i ^ j.toNat)
def iShr : R22 := i2 (fun _ j => 0 ≤ j) fun i j => .int (i / 2 ^ j.toNat)
def iLt : R22 := i20 fun i j => .bl (decide (i < j))
def iLe : R22 := i20 fun i j => .bl (decide (i ≤ j))
def iGt : R22 := i20 fun i j => .bl (decide (j < i))
def iGe : R22 := i20 fun i j => .bl (decide (j ≤ i))
theorem o_sub : OpR2 X (binaryOp .Sub) iSub := op2_int1 op_sub fun _ _ _ => .int _
theorem o_fdiv : OpR2 X (binaryOp .FloorDiv) iDiv := op2_int op_fdiv fun _ _ _ => .int _
theorem o_mod : OpR2 X (binaryOp .Mod) iMod := op2_int op_mod fun _ _ _ => .int _
theorem o_pow : OpR2 X (binaryOp .Pow) iPow := op2_int op_pow fun _ _ _ => .int _
theorem o_shr : OpR2 X (binaryOp .RShift) iShr := op2_int op_shr fun _ _ _ => .int _
theorem o_lt : OpR2 X (compareOp .Lt) iLt := op2_int1 op_lt fun _ _ _ => .bl _
theorem o_le : OpR2 X (compareOp .LtE) iLe := op2_int1 op_le fun _ _ _ => .bl _
theorem o_gt : OpR2 X (compareOp .Gt) iGt := op2_int1 op_gt fun _ _ _ => .bl _
theorem o_ge : OpR2 X (compareOp .GtE) iGe := op2_int1 op_ge fun _ _ _ => .bl _
/-- + : ints, lists, tuples, texts -/
def add2 : R22 := fun x y G Q => match x, y with
  | .int i, .int j => Q (.int (i + j)) G
  | .str i, .str j => i.length + j.length ≤ sizeLine ∧ Q (.str (i ++ j)) G
  | .tup xs, .tup ys => xs ≠ [] ∧ xs.length + ys.length ≤ sizeLine ∧ Q (.tup (xs ++ ys)) G
  | .ref l, .ref b => ∃ xs ys, G l = some (.lst xs) ∧ G b = some (.lst ys) ∧ xs.length + ys.length ≤ sizeLine ∧ ∀ p, G p = none → Q (.ref p) (gup G p (.lst (xs ++ ys)))
  | _, _ => False
theorem o_add : OpR2 X (binaryOp .Add) add2 :=
  OpR.imp (op_add.or (op_add_str.or (op_catT.or op_cat))) fun x y H Q ⟨w, w', G, Q2, S, rx, ry, q, c⟩ => by
    cases w <;> cases w' <;> first | exact False.elim q | skip
    case int i j => cases rx; cases ry; exact .inl ⟨_, _, rfl, rfl, c _ H _ G (.refl H) S (.int _) q⟩
    case str i j => cases rx; cases ry; exact .inr (.inl ⟨_, _, rfl, rfl, q.1, c _ H _ G (.refl H) S (.str _) q.2⟩)
    case ref l b =>
      cases rx; cases ry
      obtain ⟨xs, ys, e1, e2, hz, q⟩ := q
      obtain ⟨vs, h1, r1⟩ := S _ _ e1
      obtain ⟨us, h2, r2⟩ := S _ _ e2
      refine .inr (.inr (.inr ⟨l, b, vs, us, rfl, rfl, h1, h2, by rw [← r1.length, ← r2.length]; exact hz, fun p hp => ?_⟩))
      exact c _ _ _ _ (.fresh hp) (S.laid hp (.l upd_same ((r1.append r2).mono (.fresh hp)))) (.ref p) (q p (S.no hp))
    case tup xs ys =>
      obtain ⟨hx, hz, q⟩ := q
      cases rx with | tup t1 r1 => cases ry with | tup t2 r2 =>
      refine .inr (.inr (.inl ⟨_, _, _, _, rfl, rfl, t1.sq, t2.sq, fun z => hx (r1.nil_iff.mpr z), by rw [← r1.length, ← r2.length]; exact hz, fun z => ?_, fun z p hp => ?_⟩))
      · have : ys = [] := r2.nil_iff.mpr z
        subst this
        rw [List.append_nil] at q
        exact c _ H _ G (.refl H) S (.tup t1 r1) q
      · exact c _ _ _ _ (.fresh hp) (S.fresh hp) (.tup (.inl upd_same) ((r1.append r2).mono (.fresh hp))) q
/-- * : ints, a list and an int -/
def mul2 : R22 := fun x y G Q => match x, y with
  | .int i, .int j => CMul i j ∧ Q (.int (i * j)) G
  | .ref l, .int k => ∃ xs, G l = some (.lst xs) ∧ -(2 ^ 63) ≤ k ∧ k < 2 ^ 63 ∧ xs.length * k.toNat ≤ sizeLine ∧ ∀ p, G p = none → Q (.ref p) (gup G p (.lst (List.replicate k.toNat xs).flatten))
  | _, _ => False
theorem o_mul : OpR2 X (binaryOp .Mult) mul2 :=
  OpR.imp (op_mul.or op_rep) fun x y H Q ⟨w, w', G, Q2, S, rx, ry, q, c⟩ => by
    cases w <;> cases w' <;> first | exact False.elim q | skip
    case int i j => cases rx; cases ry; exact .inl ⟨_, _, rfl, rfl, q.1, c _ H _ G (.refl H) S (.int _) q.2⟩
    case ref l k =>
      cases rx; cases ry
      obtain ⟨xs, e1, k1, k2, hz, q⟩ := q
      obtain ⟨vs, h1, r1⟩ := S _ _ e1
      refine .inr ⟨l, k, vs, rfl, rfl, h1, k1, k2, by rw [← r1.length]; exact hz, fun p hp => ?_⟩
      exact c _ _ _ _ (.fresh hp) (S.laid hp (.l upd_same ((r1.rep _).mono (.fresh hp)))) (.ref p) (q p (S.no hp))

/-! ### ==, != -/
def eq2 (neg : Bool) : R22 := fun x y G Q => ∃ d e, Den G x d ∧ Den G y e ∧ Dep 40 d ∧ Q (.bl (if neg then !eqD d e else eqD d e)) G
theorem o_eq (hu : X.A.units + 40 < cLine) : OpR2 X (compareOp .Eq) (eq2 false) := by
  rintro pins s σ H x y v u Q I rx ry ⟨w, w', G, Q2, S, r1, r2, ⟨d, e, h1, h2, hd, q⟩, c⟩
  have B := both_deep s 40 X.A d e v u hd (h1.dv I S r1 rx) (h2.dv I S r2 ry) hu
  exact B.rc _ _ _ _ ⟨.bl (eqD d e), H, I, rfl, c _ H _ G (.refl H) S (.bl _) q⟩
theorem o_ne (hu : X.A.units + 40 < cLine) : OpR2 X (compareOp .NotEq) (eq2 true) := by
  rintro pins s σ H x y v u Q I rx ry ⟨w, w', G, Q2, S, r1, r2, ⟨d, e, h1, h2, hd, q⟩, c⟩
  have B := both_deep s 40 X.A d e v u hd (h1.dv I S r1 rx) (h2.dv I S r2 ry) hu
  exact B.ne _ _ _ _ ⟨.bl (!eqD d e), H, I, rfl, c _ H _ G (.refl H) S (.bl _) q⟩
/-! ### is None -/
def isN2 (neg : Bool) : R22 := fun x y G Q => match y with
  | .non => Q (.bl (if neg then !decide (x = .non) else decide (x = .non))) G
  | _ => False
theorem Rep.non_iff {K : PySem.W.Frag} {H : Hp} {w : W} {v : V} (r : Rep K H w v) : decide (v = V.non) = decide (w = W.non) := by
  cases r <;> simp
theorem o_is : OpR2 X (compareOp .Is) (isN2 false) :=
  OpR.imp op_isN fun x y H Q ⟨w, w', G, Q2, S, rx, ry, q, c⟩ => by
    cases w' <;> first | exact False.elim q | skip
    cases ry
    refine ⟨rfl, ?_⟩
    rw [rx.non_iff]
    exact c _ H _ G (.refl H) S (.bl _) q
theorem o_isnot : OpR2 X (compareOp .IsNot) (isN2 true) :=
  OpR.imp op_notN fun x y H Q ⟨w, w', G, Q2, S, rx, ry, q, c⟩ => by
    cases w' <;> first | exact False.elim q | skip
    cases ry
    refine ⟨rfl, ?_⟩
    rw [rx.non_iff]
    exact c _ H _ G (.refl H) S (.bl _) q

/-! ### and, or, not -/
variable {tA tB' : TT2} {rest : List Expr}
def uAnd (t u : TT2) : TT2 := fun τ G Q => t τ G fun c G1 => if c = true then u τ G1 Q else Q false G1
def uOr (t u : TT2) : TT2 := fun τ G Q => t τ G fun c G1 => if c = true then Q true G1 else u τ G1 Q
def uNot (t : TT2) : TT2 := fun τ G Q => t τ G fun c G1 => Q (!c) G1
theorem low_and {K : PySem.W.Frag} {t u : TT2} (σ : St) (H : Hp) (Q : Bool → Hp → Prop) (h : lowT K (uAnd t u) σ H Q) : tAnd (lowT K t) (lowT K u) σ H Q := by
  obtain ⟨τ, G, Q2, hs, hg, ht, hc⟩ := h
  refine ⟨τ, G, _, hs, hg, ht, fun b H1 G1 t1 s1 h1 => ?_⟩
  cases b with
  | true => exact ⟨τ, G1, Q2, hs.mono t1, s1, h1, hc.mono t1⟩
  | false => exact hc false H1 G1 t1 s1 h1
theorem low_or {K : PySem.W.Frag} {t u : TT2} (σ : St) (H : Hp) (Q : Bool → Hp → Prop) (h : lowT K (uOr t u) σ H Q) : tOr (lowT K t) (lowT K u) σ H Q := by
  obtain ⟨τ, G, Q2, hs, hg, ht, hc⟩ := h
  refine ⟨τ, G, _, hs, hg, ht, fun b H1 G1 t1 s1 h1 => ?_⟩
  cases b with
  | false => exact ⟨τ, G1, Q2, hs.mono t1, s1, h1, hc.mono t1⟩
  | true => exact hc true H1 G1 t1 s1 h1
theorem t_and1 (ha : PT2 X a tA) : PW2 X (.BoolOp .And [a] pos) tA := pw_and1 ha
theorem t_or1 (ha : PT2 X a tA) : PW2 X (.BoolOp .Or [a] pos) tA := pw_or1 ha
theorem t_and (ha : PT2 X a tA) (hb : PW2 X (.BoolOp .And (b :: rest) pos) tB') : PW2 X (.BoolOp .And (a :: b :: rest) pos) (uAnd tA tB') := PW.imp (pw_and ha hb) low_and
theorem t_or (ha : PT2 X a tA) (hb : PW2 X (.BoolOp .Or (b :: rest) pos) tB') : PW2 X (.BoolOp .Or (a :: b :: rest) pos) (uOr tA tB') := PW.imp (pw_or ha hb) low_or
theorem t_not (ha : PT2 X a tA) : PT2 X (.UnaryOp .Not a pos) (uNot tA) := PT.imp (pt_not ha) fun σ H Q ⟨τ, G, Q2, hs, hg, ht, hc⟩ =>
  ⟨τ, G, _, hs, hg, ht, fun b H1 G1 t1 s1 h1 => hc (!b) H1 G1 t1 s1 h1⟩
/-- .. as values (bools) -/
def uAndV (ta tb : TE2) : TE2 := fun τ G Q => ta τ G fun x G1 => match x with
  | .bl c => if c = true then tb τ G1 Q else Q (.bl false) G1
  | _ => False
def uOrV (ta tb : TE2) : TE2 := fun τ G Q => ta τ G fun x G1 => match x with
  | .bl c => if c = true then Q (.bl true) G1 else tb τ G1 Q
  | _ => False
def uNotV (ta : TE2) : TE2 := fun τ G Q => ta τ G fun x G1 => match x with
  | .bl c => Q (.bl (!c)) G1
  | _ => False
theorem e_one {op} {t : TE2} (h : PE2 X a t) : PE2 X (.BoolOp op [a] pos) t := pe_one h
theorem e_and (ha : PE2 X a ta) (hb : PE2 X (.BoolOp .And (b :: rest) pos) tb) : PE2 X (.BoolOp .And (a :: b :: rest) pos) (uAndV ta tb) :=
  PE.imp (pe_and ha hb) fun σ H Q ⟨τ, G, Q2, hs, hg, ht, hc⟩ => ⟨τ, G, _, hs, hg, ht, fun v H1 w G1 t1 s1 r1 h1 => by
    cases w <;> first | exact False.elim h1 | skip
    cases r1
    rename_i k
    refine ⟨k, rfl, ?_⟩
    cases k with
    | true => exact ⟨τ, G1, Q2, hs.mono t1, s1, h1, hc.mono t1⟩
    | false => exact hc _ H1 _ G1 t1 s1 (.bl _) h1⟩
theorem e_or (ha : PE2 X a ta) (hb : PE2 X (.BoolOp .Or (b :: rest) pos) tb) : PE2 X (.BoolOp .Or (a :: b :: rest) pos) (uOrV ta tb) :=
  PE.imp (pe_or ha hb) fun σ H Q ⟨τ, G, Q2, hs, hg, ht, hc⟩ => ⟨τ, G, _, hs, hg, ht, fun v H1 w G1 t1 s1 r1 h1 => by
    cases w <;> first | exact False.elim h1 | skip
    cases r1
    rename_i k
    refine ⟨k, rfl, ?_⟩
    cases k with
    | false => exact ⟨τ, G1, Q2, hs.mono t1, s1, h1, hc.mono t1⟩
    | true => exact hc _ H1 _ G1 t1 s1 (.bl _) h1⟩
theorem e_not (ha : PE2 X a ta) : PE2 X (.UnaryOp .Not a pos) (uNotV ta) :=
  PE.imp (pe_not ha) fun σ H Q ⟨τ, G, Q2, hs, hg, ht, hc⟩ => ⟨τ, G, _, hs, hg, ht, fun v H1 w G1 t1 s1 r1 h1 => by
    cases w <;> first | exact False.elim h1 | skip
    cases r1
    exact ⟨_, rfl, hc _ H1 _ G1 t1 s1 (.bl _) h1⟩⟩
def uIf (t : TT2) (ta tb : TE2) : TE2 := fun τ G Q => t τ G fun c G1 => if c = true then ta τ G1 Q else tb τ G1 Q
theorem e_ifExp {c : Expr} (hc : PT2 X c tA) (ha : PE2 X a ta) (hb : PE2 X b tb) : PE2 X (.IfExp c a b pos) (uIf tA ta tb) :=
  PE.imp (pe_ifExp hc ha hb) fun σ H Q ⟨τ, G, Q2, hs, hg, ht, hc⟩ => ⟨τ, G, _, hs, hg, ht, fun b H1 G1 t1 s1 h1 => by
    cases b with
    | true => exact ⟨τ, G1, Q2, hs.mono t1, s1, h1, hc.mono t1⟩
    | false => exact ⟨τ, G1, Q2, hs.mono t1, s1, h1, hc.mono t1⟩⟩

/-! ### argument lists, displays -/
variable {es : List Expr} {t : TA2}
def uNil : TA2 := fun _ G Q => Q [] G
def uCons (ta : TE2) (tr : TA2) : TA2 := fun τ G Q => ta τ G fun x G1 => tr τ G1 fun xs G2 => Q (x :: xs) G2
theorem a_nil : PA2 X [] uNil := PA.imp pa_nil fun σ H Q ⟨τ, G, Q2, hs, hg, ht, hc⟩ => hc [] H [] G (.refl H) hg .nil ht
theorem a_cons (ha : PE2 X e te) (hr : PA2 X es t) (hs : starEach (e :: es) X.env = (false, eval e X.env) :: starEach es X.env := by rfl) : PA2 X (e :: es) (uCons te t) :=
  PA.imp (pa_cons ha hr hs) fun σ H Q ⟨τ, G, Q2, hs, hg, ht, hc⟩ => ⟨τ, G, _, hs, hg, ht, fun v H1 w G1 t1 s1 r1 h1 =>
    ⟨τ, G1, _, hs.mono t1, s1, h1, fun vs H2 ws G2 t2 s2 r2 h2 => hc _ H2 _ G2 (t1.trans t2) s2 (.cons (r1.mono t2) r2) h2⟩⟩
def uTup (t : TA2) : TE2 := fun τ G Q => t τ G fun xs G1 => xs.length ≤ sizeLine ∧ Q (.tup xs) G1
def uLst (t : TA2) : TE2 := fun τ G Q => t τ G fun xs G1 => xs.length ≤ sizeLine ∧ ∀ p, G1 p = none → Q (.ref p) (gup G1 p (.lst xs))
theorem e_tup {x1} (h : PA2 X es t) : PE2 X (.Tuple es x1 pos) (uTup t) :=
  PE.imp (pe_tup h) fun σ H Q ⟨τ, G, Q2, hs, hg, ht, hc⟩ => ⟨τ, G, _, hs, hg, ht, fun vs H1 ws G1 t1 s1 r1 h1 =>
    ⟨by rw [← r1.length]; exact h1.1, fun p hp => hc _ _ _ _ (t1.trans (.fresh hp)) (s1.fresh hp) (.tup (.inl upd_same) (r1.mono (.fresh hp))) h1.2⟩⟩
theorem e_lst (h : PA2 X es t) : PE2 X (.List es pos) (uLst t) :=
  PE.imp (pe_lst h) fun σ H Q ⟨τ, G, Q2, hs, hg, ht, hc⟩ => ⟨τ, G, _, hs, hg, ht, fun vs H1 ws G1 t1 s1 r1 h1 =>
    ⟨by rw [← r1.length]; exact h1.1, fun p hp => hc _ _ _ _ (t1.trans (.fresh hp)) (s1.laid hp (.l upd_same (r1.mono (.fresh hp)))) (.ref p) (h1.2 p (s1.no hp))⟩⟩
def uDNew (k : Bool) : TE2 := fun _ G Q => ∀ p, G p = none → Q (.ref p) (gup G p (.dct k []))
theorem e_dnewK : PE2 X (.Dict [] [] pos) (uDNew false) := PE.imp pe_dnewK fun σ H Q ⟨τ, G, Q2, hs, hg, ht, hc⟩ p hp =>
  hc _ _ _ _ (.fresh hp) (hg.laid hp (.dk upd_same .nil)) (.ref p) (ht p (hg.no hp))
theorem e_dnewT : PE2 X (.Dict [] [] pos) (uDNew true) := PE.imp pe_dnewT fun σ H Q ⟨τ, G, Q2, hs, hg, ht, hc⟩ p hp =>
  hc _ _ _ _ (.fresh hp) (hg.laid hp (.dt upd_same .nil)) (.ref p) (ht p (hg.no hp))
end
end L3

set_option Elab.async false
set_option linter.all false
set_option maxRecDepth 100000
namespace L3
open PySem PySem.Spec L2
open PyProof.Rows hiding St

/-! ### statements -/
section
variable {X : Cx} {st : Stmt} {rest : List Stmt} {t u : TS2} {e : Expr} {te : TE2} {pos : Pos}
def uNext : TS2 := fun D τ G => D.nx τ G
def uSeq (t u : TS2) : TS2 := fun D τ G => t { D with nx := u D } τ G
theorem ss_nil : PSs2 X [] uNext := PSs.imp pss_nil fun D σ H ⟨τ, G, D2, hs, hg, ht, le⟩ => le.nx σ H τ G (.refl H) hs hg ht
theorem ss_cons (h1 : PS2 X st t) (h2 : PSs2 X rest u) : PSs2 X (st :: rest) (uSeq t u) :=
  PSs.imp (pss_cons h1 h2) fun D σ H ⟨τ, G, D2, hs, hg, ht, le⟩ =>
    ⟨τ, G, { D2 with nx := u D2 }, hs, hg, ht, ⟨fun σ' H' τ' G' t1 s1 g1 h1 => ⟨τ', G', D2, s1, g1, h1, le.mono t1⟩, le.rt, le.bk, le.ct⟩⟩
theorem ss_one (h1 : PS2 X st t) : PSs2 X [st] t := pss_one h1
def uBreak : TS2 := fun D τ G => D.bk τ G
def uCont : TS2 := fun D τ G => D.ct τ G
theorem s_pass : PS2 X (.Pass pos) uNext := PS.imp ps_pass fun D σ H ⟨τ, G, D2, hs, hg, ht, le⟩ => le.nx σ H τ G (.refl H) hs hg ht
theorem s_break : PS2 X (.Break pos) uBreak := PS.imp ps_break fun D σ H ⟨τ, G, D2, hs, hg, ht, le⟩ => le.bk σ H τ G (.refl H) hs hg ht
theorem s_continue : PS2 X (.Continue pos) uCont := PS.imp ps_continue fun D σ H ⟨τ, G, D2, hs, hg, ht, le⟩ => le.ct σ H τ G (.refl H) hs hg ht
def uDrop (te : TE2) : TS2 := fun D τ G => te τ G fun _ G1 => D.nx τ G1
theorem s_expr (he : PE2 X e te) (hs : swapsWith e none pos.line X.env = pure false := by rfl) : PS2 X (.Expr e pos) (uDrop te) :=
  PS.imp (ps_expr he hs) fun D σ H ⟨τ, G, D2, hs, hg, ht, le⟩ => ⟨τ, G, _, hs, hg, ht, fun v H1 w G1 t1 s1 r1 h1 => le.nx σ H1 τ G1 t1 (hs.mono t1) s1 h1⟩
def uRet (te : TE2) : TS2 := fun D τ G => te τ G D.rt
theorem s_ret (he : PE2 X e te) : PS2 X (.Return (some e) pos) (uRet te) :=
  PS.imp (ps_ret he) fun D σ H ⟨τ, G, D2, hs, hg, ht, le⟩ => ⟨τ, G, _, hs, hg, ht, fun v H1 w G1 t1 s1 r1 h1 => le.rt v H1 w G1 t1 s1 r1 h1⟩
def uRetN : TS2 := fun D _ G => D.rt .non G
theorem s_retN : PS2 X (.Return none pos) uRetN := PS.imp ps_retN fun D σ H ⟨τ, G, D2, hs, hg, ht, le⟩ => le.rt _ H _ G (.refl H) hg .non ht
def uIfS (c : TT2) (t u : TS2) : TS2 := fun D τ G => c τ G fun b G1 => if b = true then t D τ G1 else u D τ G1
theorem s_if {c : Expr} {a b : List Stmt} {tc : TT2} (hc : PT2 X c tc) (ha : PSs2 X a t) (hb : PSs2 X b u) : PS2 X (.If c a b pos) (uIfS tc t u) :=
  PS.imp (ps_if hc ha hb) fun D σ H ⟨τ, G, D2, hs, hg, ht, le⟩ => ⟨τ, G, _, hs, hg, ht, fun b H1 G1 t1 s1 h1 => by
    cases b with
    | true => exact ⟨τ, G1, D2, hs.mono t1, s1, h1, le.mono t1⟩
    | false => exact ⟨τ, G1, D2, hs.mono t1, s1, h1, le.mono t1⟩⟩
def uNever : TS2 := fun _ _ _ => False
theorem s_never : PS2 X st uNever := PS.imp ps_never fun _ _ _ ⟨_, _, _, _, _, ht, _⟩ => ht
theorem ss_never {sts : List Stmt} : PSs2 X sts uNever := PSs.imp pss_never fun _ _ _ ⟨_, _, _, _, _, ht, _⟩ => ht
end

/-! ### targets -/
abbrev TG2 := W → St2 → WH → (St2 → WH → Prop) → Prop
abbrev TGs2 := List W → St2 → WH → (St2 → WH → Prop) → Prop
def lowG (K : PySem.W.Frag) (t : TG2) : TG := fun v σ H Q => ∃ w τ G Q2, Rep K H w v ∧ SimS K H τ σ ∧ Sim K G H ∧ t w τ G Q2 ∧ ContS K H Q2 Q
def lowGs (K : PySem.W.Frag) (t : TGs2) : TGs := fun vs σ H Q => ∃ ws τ G Q2, Reps K H ws vs ∧ SimS K H τ σ ∧ Sim K G H ∧ t ws τ G Q2 ∧ ContS K H Q2 Q
def PG2 (X : Cx) (tg : Expr) (t : TG2) : Prop := PG X tg (lowG X.K t)
def PGs2 (X : Cx) (tgs : List Expr) (t : TGs2) : Prop := PGs X tgs (lowGs X.K t)
section
variable {X : Cx} {pos : Pos}
theorem PG.imp {tg : Expr} {t t' : TG} (h : PG X tg t) (le : ∀ v σ H Q, t' v σ H Q → t v σ H Q) : PG X tg t' := fun pins s σ H v u Q I r q => h pins s σ H v u Q I r (le v σ H Q q)
theorem PGs.imp {tg : List Expr} {t t' : TGs} (h : PGs X tg t) (le : ∀ v σ H Q, t' v σ H Q → t v σ H Q) : PGs X tg t' := fun pins s σ H v u Q I r q => h pins s σ H v u Q I r (le v σ H Q q)
def uName (i : Nat) : TG2 := fun w τ G Q => Q (τ.set i (some w)) G
theorem g_name {i : Nat} {x : Str} (hN : X.N.Nodup) (hi : X.N[i]? = some x) (hx : Loc X.env.scope x) (hf : X.fn x = true ∨ X.env.scope.names.lookup x = some .local := by first | exact .inl rfl | exact .inr rfl | assumption) : PG2 X (.Name x pos) (uName i) :=
  PG.imp (pg_name hN hi hx hf) fun v σ H Q ⟨w, τ, G, Q2, r, hs, hg, ht, c⟩ => c _ H _ G (.refl H) (hs.set r i) hg ht
def uGNil : TGs2 := fun ws τ G Q => ws = [] ∧ Q τ G
def uGCons (t : TG2) (u : TGs2) : TGs2 := fun ws τ G Q => match ws with
  | w :: r => t w τ G fun τ' G' => u r τ' G' Q
  | [] => False
theorem gs_nil : PGs2 X [] uGNil := PGs.imp pgs_nil fun vs σ H Q ⟨ws, τ, G, Q2, r, hs, hg, ht, c⟩ => by
  obtain ⟨e, q⟩ := ht
  subst e
  cases r
  exact ⟨rfl, c _ H _ G (.refl H) hs hg q⟩
theorem gs_cons {e : Expr} {es : List Expr} {t : TG2} {u : TGs2} (h1 : PG2 X e t) (h2 : PGs2 X es u)
    (hs : (assignEach (e :: es) X.env).map (·.2) = assign e X.env :: (assignEach es X.env).map (·.2) := by rfl) : PGs2 X (e :: es) (uGCons t u) := PGs.imp (pgs_cons h1 h2 hs) fun vs σ H Q ⟨ws, τ, G, Q2, r, hs, hg, ht, c⟩ => by
  cases r with
  | nil => exact False.elim ht
  | cons a b =>
    refine ⟨_, _, rfl, _, τ, G, _, a, hs, hg, ht, fun σ1 H1 τ1 G1 t1 s1 g1 h1 => ?_⟩
    exact ⟨_, τ1, G1, Q2, b.mono t1, s1, g1, h1, c.mono t1⟩
def uGTup (n : Nat) (t : TGs2) : TG2 := fun w τ G Q => match w with
  | .tup ws => ws.length = n ∧ t ws τ G Q
  | _ => False
theorem g_tup {es : List Expr} {k : Nat} {t : TGs2} {n : Nat} (hc : X.calm = true) (h : PGs2 X es t)
    (hn : (assignEach es X.env).length = n := by rfl) (hst : (assignEach es X.env).findIdx? (·.1) = none := by rfl) : PG2 X (.Tuple es k pos) (uGTup n t) := PG.imp (pg_tup hc h hn hst) fun v σ H Q ⟨w, τ, G, Q2, r, hs, hg, ht, c⟩ => by
  cases w <;> first | exact False.elim ht | skip
  cases r with
  | tup ta ra => exact ⟨_, _, rfl, ta.sq, by rw [← ra.length]; exact ht.1, _, τ, G, Q2, ra, hs, hg, ht.2, c⟩
def uAsg (te : TE2) (g : TG2) : TS2 := fun D τ G => te τ G fun x G1 => g x τ G1 D.nx
theorem low_asg {K : PySem.W.Frag} {te : TE2} {g : TG2} (D : Ends) (σ : St) (H : Hp) (h : lowS K (uAsg te g) D σ H) : tAsg (low K te) (lowG K g) D σ H := by
  obtain ⟨τ, G, D2, hs, hg, ht, le⟩ := h
  exact ⟨τ, G, _, hs, hg, ht, fun v H1 w G1 t1 s1 r1 h1 => ⟨w, τ, G1, _, r1, hs.mono t1, s1, h1, (le.mono t1).nx⟩⟩
theorem s_asg {tg e : Expr} {te : TE2} {g : TG2} (he : PE2 X e te) (hg : PG2 X tg g) (hs : swapsWithSole [tg] e pos.line X.env = pure false := by rfl) (hw : swappedStores [tg] e X.env = pure none := by rfl)
    (h1 : (assignEach [tg] X.env).map (·.2) = [assign tg X.env] := by rfl) : PS2 X (.Assign [tg] e pos) (uAsg te g) := PS.imp (ps_asg he hg hs hw h1) low_asg
theorem s_set {i : Nat} {x : Str} {e : Expr} {te : TE2} {pos' : Pos} (hN : X.N.Nodup) (hi : X.N[i]? = some x) (hx : Loc X.env.scope x) (he : PE2 X e te) (hs : swapsWith e (some (.Name x pos')) pos.line X.env = pure false := by rfl) (hf : X.fn x = true ∨ X.env.scope.names.lookup x = some .local := by first | exact .inl rfl | exact .inr rfl | assumption) :
    PS2 X (.Assign [.Name x pos'] e pos) (uAsg te (uName i)) := PS.imp (ps_set hN hi hx he hs hf) fun D σ H ⟨τ, G, D2, hs, hg, ht, le⟩ =>
  ⟨τ, G, _, hs, hg, ht, fun v H1 w G1 t1 s1 r1 h1 => le.nx _ H1 _ G1 t1 ((hs.mono t1).set r1 i) s1 h1⟩
end

/-! ### dicts as lists of pairs -/
def lookW (kvs : List (W × W)) (k : W) : Option W := (kvs.find? fun kv => decide (kv.1 = k)).map (·.2)
def putW (kvs : List (W × W)) (k v : W) : List (W × W) := if (kvs.any fun kv => decide (kv.1 = k)) = true then kvs.map fun kv => if kv.1 = k then (kv.1, v) else kv else kvs ++ [(k, v)]
def isKey : Bool → W → Bool
  | false, .int _ => true
  | false, .str _ => true
  | true, .tup ws => ws.all fun x => match x with | .int _ => true | .str _ => true | _ => false
  | _, _ => false
theorem keys_of : ∀ {ws : List W}, (ws.all fun x => match x with | .int _ => true | .str _ => true | _ => false) = true → ∃ ks : List Key, ws = ks.map keyS
  | [], _ => ⟨[], rfl⟩
  | w :: ws, h => by
    rw [List.all_cons, Bool.and_eq_true] at h
    obtain ⟨h1, h2⟩ := h
    obtain ⟨ks, e⟩ := keys_of h2
    cases w <;> first | (cases h1; done) | skip
    case int i => exact ⟨.inl i :: ks, by rw [e]; rfl⟩
    case str i => exact ⟨.inr i :: ks, by rw [e]; rfl⟩
section
variable {K : PySem.W.Frag} {H : Hp}
theorem rep_key {k : Key} {v : V} (r : Rep K H (keyS k) v) : v = kV k := by
  cases k <;> (cases r; rfl)
theorem reps_keys : ∀ {ks : List Key} {vs : List V}, Reps K H (ks.map keyS) vs → vs = ks.map kV
  | [], _, .nil => rfl
  | k :: ks, _, .cons a b => by rw [rep_key a, reps_keys b]; rfl
theorem rep_tkey {ks : List Key} {v : V} (r : Rep K H (.tup (ks.map keyS)) v) : ∃ b, v = .ref b ∧ TupAt K H b (ks.map kV) := by
  cases r with
  | tup t r => exact ⟨_, rfl, by rw [← reps_keys r]; exact t⟩
abbrev KRel (K : PySem.W.Frag) (H : Hp) : List (W × W) → List (Key × V) → Prop := Paired fun (p : W × W) (q : Key × V) => p.1 = keyS q.1 ∧ Rep K H p.2 q.2
abbrev TRel (K : PySem.W.Frag) (H : Hp) : List (W × W) → List (List Key × V) → Prop := Paired fun (p : W × W) (q : List Key × V) => p.1 = .tup (q.1.map keyS) ∧ Rep K H p.2 q.2
/-- one proof for both kinds of keys -/
theorem rel_look {κ : Type} [DecidableEq κ] {f : κ → W} (inj : ∀ a b, f a = f b → a = b) {kvs : List (W × W)} {ks : List (κ × V)} (r : Paired (fun (p : W × W) (q : κ × V) => p.1 = f q.1 ∧ Rep K H p.2 q.2) kvs ks) (k : κ) :
    (∃ w v, lookW kvs (f k) = some w ∧ valV ks k = some v ∧ Rep K H w v) ∨ (lookW kvs (f k) = none ∧ valV ks k = none) := by
  induction r with
  | nil => exact .inr ⟨rfl, rfl⟩
  | @cons p q ps qs h t ih =>
    by_cases e : q.1 = k
    · refine .inl ⟨p.2, q.2, ?_, valV_pos e, h.2⟩
      simp [lookW, List.find?_cons, h.1, e]
    · have e' : ¬ p.1 = f k := fun z => e (inj _ _ (h.1.symm.trans z))
      have l : lookW (p :: ps) (f k) = lookW ps (f k) := by simp [lookW, List.find?_cons, e']
      rw [l, valV_neg e]
      exact ih
theorem rel_any {κ : Type} [DecidableEq κ] {f : κ → W} (inj : ∀ a b, f a = f b → a = b) {kvs : List (W × W)} {ks : List (κ × V)} (r : Paired (fun (p : W × W) (q : κ × V) => p.1 = f q.1 ∧ Rep K H p.2 q.2) kvs ks) (k : κ) :
    (kvs.any fun kv => decide (kv.1 = f k)) = (ks.any fun kv => decide (kv.1 = k)) := by
  induction r with
  | nil => rfl
  | @cons p q ps qs h t ih =>
    rw [List.any_cons, List.any_cons, ih]
    congr 1
    by_cases e : q.1 = k
    · simp [h.1, e]
    · have e' : ¬ p.1 = f k := fun z => e (inj _ _ (h.1.symm.trans z))
      simp [e, e']
theorem rel_put {κ : Type} [DecidableEq κ] {f : κ → W} (inj : ∀ a b, f a = f b → a = b) {kvs : List (W × W)} {ks : List (κ × V)} (r : Paired (fun (p : W × W) (q : κ × V) => p.1 = f q.1 ∧ Rep K H p.2 q.2) kvs ks) (k : κ) {w : W} {v : V} (rw' : Rep K H w v) :
    Paired (fun (p : W × W) (q : κ × V) => p.1 = f q.1 ∧ Rep K H p.2 q.2) (putW kvs (f k) w) (putK ks k v) := by
  unfold putW putK
  rw [rel_any inj r k]
  by_cases e : (ks.any fun kv => decide (kv.1 = k)) = true
  · rw [if_pos e, if_pos e]
    clear e
    induction r with
    | nil => exact .nil
    | @cons p q ps qs h t ih =>
      refine .cons ?_ ih
      by_cases e : q.1 = k
      · have e' : p.1 = f k := by rw [h.1, e]
        dsimp only
        rw [if_pos e, if_pos e']
        exact ⟨h.1, rw'⟩
      · have e' : ¬ p.1 = f k := fun z => e (inj _ _ (h.1.symm.trans z))
        dsimp only
        rw [if_neg e, if_neg e']
        exact h
  · rw [if_neg e, if_neg e]
    exact Paired.snoc r ⟨rfl, rw'⟩
theorem Paired.len {α β : Type} {F : α → β → Prop} {x : List α} {y : List β} (h : Paired F x y) : x.length = y.length := Paired.length h
theorem tkey_inj (a b : List Key) (h : W.tup (a.map keyS) = W.tup (b.map keyS)) : a = b := keySs_inj (W.tup.inj h)
/-- what the dict holds at a key -/
theorem dget_of {G : WH} {a : Addr} {t : Bool} {kvs : List (W × W)} {w : W} {y : V} (S : Sim K G H) (e : G a = some (.dct t kvs)) (hk : isKey t w = true) (r : Rep K H w y) :
    ∃ o, DGet K H a y o ∧ ((∃ z v, lookW kvs w = some z ∧ o = some v ∧ Rep K H z v) ∨ (lookW kvs w = none ∧ o = none)) := by
  have q := S a _ e
  cases t with
  | false =>
    obtain ⟨ks, h1, rel⟩ := q
    have : ∃ k, w = keyS k := by
      cases w <;> first | (cases hk; done) | skip
      case int i => exact ⟨.inl i, rfl⟩
      case str i => exact ⟨.inr i, rfl⟩
    obtain ⟨k, rfl⟩ := this
    obtain rfl := rep_key r
    refine ⟨valV ks k, .k h1, ?_⟩
    exact rel_look (f := keyS) (fun _ _ => keyS_inj) rel k
  | true =>
    obtain ⟨ks, h1, rel⟩ := q
    cases w <;> first | (cases hk; done) | skip
    case tup ws =>
      obtain ⟨k, rfl⟩ := keys_of hk
      obtain ⟨b, rfl, tb⟩ := rep_tkey r
      refine ⟨valV ks k, .t h1 tb, ?_⟩
      exact rel_look (f := fun k => W.tup (k.map keyS)) tkey_inj rel k
theorem dput_of {G : WH} {a : Addr} {t : Bool} {kvs : List (W × W)} {w z : W} {y v : V} (S : Sim K G H) (e : G a = some (.dct t kvs)) (hk : isKey t w = true) (r : Rep K H w y) (rz : Rep K H z v) (hl : kvs.length < sizeLine) :
    ∃ H', DPut K H a y v H' ∧ TX H H' ∧ Sim K (gup G a (.dct t (putW kvs w z))) H' := by
  have mu := (S a _ e).mut
  have q := S a _ e
  cases t with
  | false =>
    obtain ⟨ks, h1, rel⟩ := q
    have : ∃ k, w = keyS k := by
      cases w <;> first | (cases hk; done) | skip
      case int i => exact ⟨.inl i, rfl⟩
      case str i => exact ⟨.inr i, rfl⟩
    obtain ⟨k, rfl⟩ := this
    obtain rfl := rep_key r
    refine ⟨_, .k h1 (by rw [← Paired.len rel]; exact hl), .write mu, S.write mu (.dk upd_same ?_)⟩
    exact Paired.mapP (rel_put (f := keyS) (fun _ _ => keyS_inj) rel k rz) fun _ _ z => ⟨z.1, z.2.mono (.write mu)⟩
  | true =>
    obtain ⟨ks, h1, rel⟩ := q
    cases w <;> first | (cases hk; done) | skip
    case tup ws =>
      obtain ⟨k, rfl⟩ := keys_of hk
      obtain ⟨b, rfl, tb⟩ := rep_tkey r
      refine ⟨_, .t h1 tb (by rw [← Paired.len rel]; exact hl), .write mu, S.write mu (.dt upd_same ?_)⟩
      exact Paired.mapP (rel_put (f := fun k => W.tup (k.map keyS)) tkey_inj rel k rz) fun _ _ z => ⟨z.1, z.2.mono (.write mu)⟩
end

/-! ### o[i], o[i] = v -/
section
variable {X : Cx} {a b : Expr} {ta tb : TE2} {pos : Pos}
def rIxD (K : PySem.W.Frag) : R2 := fun x y H Q => ∃ p v, x = .ref p ∧ DGet K H p y (some v) ∧ Q v H
theorem ix_dict (hu : X.A.units + 1 < cLine) : IxR X (rIxD X.K) := by
  rintro value slice pins s σ H x y v u Q I rx ry ⟨p, z, rfl, g, q⟩ hs
  obtain rfl : v = Value.ref p := rx
  have hT := dict_typeIs I g
  unfold subscriptTail
  refine wpAny_bind ?_
  rw [getitemInPython_of_ne hT.not_modules]
  refine wpAny_bind (wpAny_specialOf hT PySem.F.slot_dict_getitem.lookup ?_)
  have fin : wpAny (model X.prog X.w) X.A (subscripted slice false (.ref p) u) (fun r s₃ => wpAny (model X.prog X.w) X.A (letTemporaryGo value (.ref p) r >>= fun _ => pure r) (EP X pins σ Q) X.xe s₃) X.xe s := by
    rw [hs]
    exact wpAny_operating (d_getItem hu I g ry fun w' s3 I3 rw' => wpAny_bind (wpAny_letTemporaryGo (wpAny_pure ⟨z, H, I3, rw', q⟩)))
  first
    | exact wpAny_pure (wpAny_bind fin)
    | exact wpAny_bind (wpAny_pure (wpAny_bind fin))
    | exact wpAny_bind fin
def ix2 : R22 := fun x y G Q => match x with
  | .tup ws => (match y with
    | .int i => ∃ w, atI ws i = some w ∧ Q w G
    | _ => False)
  | .scr ws => (match y with
    | .int i => ∃ w, atI ws i = some w ∧ Q w G
    | _ => False)
  | .ref a => (match G a with
    | some (.lst ws) => (match y with
      | .int i => ∃ w, atI ws i = some w ∧ Q w G
      | _ => False)
    | some (.dct t kvs) => isKey t y = true ∧ ∃ w, lookW kvs y = some w ∧ Q w G
    | _ => False)
  | .str z => (match y with
    | .int i => z.length ≤ sizeLine ∧ ∃ c, atI z.cps.toList i = some c ∧ Q (.str ⟨#[c]⟩) G
    | _ => False)
  | _ => False
theorem atI_rep {K : PySem.W.Frag} {H : Hp} {ws : List W} {vs : List V} {i : Int} {w : W} (r : Reps K H ws vs) (h : atI ws i = some w) : ∃ v, atI vs i = some v ∧ Rep K H w v := by
  unfold atI at h ⊢
  rw [← r.length]
  cases e : ixN ws.length i with
  | none => rw [e] at h; cases h
  | some j => rw [e] at h; exact r.get h
theorem e_ix (hu : X.A.units + 1 < cLine) (ha : PE2 X a ta) (hb : PE2 X b tb) (hs : PlainIx b := by exact fun _ _ => rfl) : PE2 X (.Subscript a b pos) (uOp ix2 ta tb) := by
  have hr : IxR X (lowR X.K ix2) := by
    have h := (ix_seq (X := X)).or (ix_dict hu)
    intro value slice pins s σ H x y v u Q I rx ry q hs'
    refine h value slice pins s σ H x y v u Q I rx ry ?_ hs'
    obtain ⟨w, w', G, Q2, S, r1, r2, q, c⟩ := q
    unfold ix2 at q
    cases w <;> first | exact False.elim q | skip
    case tup ws =>
      cases w' <;> first | exact False.elim q | skip
      cases r2
      obtain ⟨z, e, q⟩ := q
      cases r1 with
      | tup t r =>
        obtain ⟨zv, e', rz⟩ := atI_rep r e
        exact .inl (.inr (.inl ⟨_, _, _, zv, rfl, rfl, t.sq, e', c _ H _ G (.refl H) S rz q⟩))
    case scr ws =>
      cases w' <;> first | exact False.elim q | skip
      cases r2
      obtain ⟨z, e, q⟩ := q
      cases r1 with
      | scr t r =>
        obtain ⟨zv, e', rz⟩ := atI_rep r e
        exact .inl (.inl ⟨_, _, _, zv, rfl, rfl, t.sq, e', c _ H _ G (.refl H) S rz q⟩)
    case str z =>
      cases w' <;> first | exact False.elim q | skip
      cases r2
      cases r1
      obtain ⟨hz, ch, e, q⟩ := q
      exact .inl (.inr (.inr ⟨_, _, ch, rfl, rfl, hz, e, c _ H _ G (.refl H) S (.str _) q⟩))
    case ref p =>
      cases r1
      dsimp only at q
      cases e : G p with
      | none => rw [e] at q; exact False.elim q
      | some o =>
        rw [e] at q
        cases o with
        | lst ws =>
          cases w' <;> first | exact False.elim q | skip
          cases r2
          obtain ⟨z, e1, q⟩ := q
          obtain ⟨vs, hv, rv⟩ := S _ _ e
          obtain ⟨zv, e', rz⟩ := atI_rep rv e1
          exact .inl (.inl ⟨_, _, _, zv, rfl, rfl, .of hv, e', c _ H _ G (.refl H) S rz q⟩)
        | dct t kvs =>
          obtain ⟨hk, z, e1, q⟩ := q
          obtain ⟨o, g, hh⟩ := dget_of S e hk r2
          rcases hh with ⟨z', zv, e2, rfl, rz⟩ | ⟨e2, _⟩
          · rw [e1] at e2; cases e2
            exact .inr ⟨p, zv, rfl, g, c _ H _ G (.refl H) S rz q⟩
          · rw [e1] at e2; cases e2
        | ins C fs => exact False.elim q
  exact PE.imp (pe_ix hr ha hb hs) low_op
abbrev TSet2 := W → W → W → WH → (WH → Prop) → Prop
def lowSet (K : PySem.W.Frag) (t : TSet2) : TSet := fun o i v H Q => ∃ ow iw vw G Q2, Sim K G H ∧ Rep K H ow o ∧ Rep K H iw i ∧ Rep K H vw v ∧ t ow iw vw G Q2 ∧ ∀ H' G', TX H H' → Sim K G' H' → Q2 G' → Q H'
def set2 : TSet2 := fun o i v G Q => match o with
  | .ref a => (match G a with
    | some (.lst ws) => (match i with
      | .int k => ∃ j, ixN ws.length k = some j ∧ Q (gup G a (.lst (ws.set j v)))
      | _ => False)
    | some (.dct t kvs) => isKey t i = true ∧ kvs.length < sizeLine ∧ Q (gup G a (.dct t (putW kvs i v)))
    | _ => False)
  | _ => False
def rSetD (K : PySem.W.Frag) : TSet := fun o i v H Q => ∃ p H', o = .ref p ∧ DPut K H p i v H' ∧ Q H'
theorem set_dict (hu : X.A.units + 1 < cLine) : PSet X (rSetD X.K) := by
  rintro pins s σ H o i v ov iv u Q I ro ri rv ⟨p, H', rfl, g, q⟩
  obtain rfl : ov = Value.ref p := ro
  exact d_setItem hu I g ri rv fun s' I' => ⟨H', I', q⟩
theorem p_set (hu : X.A.units + 1 < cLine) : PSet X (lowSet X.K set2) := by
  rintro pins s σ H o i v ov iv u Q I ro ri rv ⟨ow, iw, vw, G, Q2, S, r1, r2, r3, q, c⟩
  unfold set2 at q
  cases ow <;> first | exact False.elim q | skip
  case ref p =>
    cases r1
    dsimp only at q
    cases e : G p with
    | none => rw [e] at q; exact False.elim q
    | some ob =>
      rw [e] at q
      cases ob with
      | lst ws =>
        cases iw <;> first | exact False.elim q | skip
        cases r2
        obtain ⟨j, e1, q⟩ := q
        have mu := (S _ _ e).mut
        obtain ⟨vs, hv, rvs⟩ := S _ _ e
        refine set_list pins s σ H _ _ v ov iv u Q I ro ri rv ⟨p, vs, _, j, rfl, rfl, hv, by rw [← rvs.length]; exact e1, ?_⟩
        exact c _ _ (.write mu) (S.write mu (.l upd_same ((rvs.set r3 j).mono (.write mu)))) q
      | dct t kvs =>
        obtain ⟨hk, hl, q⟩ := q
        obtain ⟨H', g, tx, S'⟩ := dput_of S e hk r2 r3 hl
        exact set_dict hu pins s σ H _ i v ov iv u Q I ro ri rv ⟨p, H', rfl, g, c H' _ tx S' q⟩
      | ins C fs => exact False.elim q
def uGSub (to ti : TE2) : TG2 := fun v τ G Q => to τ G fun o G1 => ti τ G1 fun i G2 => set2 o i v G2 fun G3 => Q τ G3
theorem g_sub (hu : X.A.units + 1 < cLine) {o i : Expr} {to ti : TE2} (ho : PE2 X o to) (hi : PE2 X i ti)
    (ha : ∀ v, assign (.Subscript o i pos) X.env v = (do
      let ov ← holding [v] (eval o X.env)
      let iv ← holding [v, ov] (eval i X.env)
      standAt pos
      holding [v, ov, iv] (setItem ov iv v)
      release [v, ov, iv] []) := by intro _; rfl) : PG2 X (.Subscript o i pos) (uGSub to ti) :=
  PG.imp (pg_sub ho hi (p_set hu) ha) fun v σ H Q ⟨w, τ, G, Q2, r, hs, hg, ht, c⟩ =>
    ⟨τ, G, _, hs, hg, ht, fun ov H1 ow G1 t1 s1 r1 h1 => ⟨τ, G1, _, hs.mono t1, s1, h1, fun iv H2 iw G2 t2 s2 r2 h2 =>
      ⟨ow, iw, w, G2, _, s2, r1.mono t2, r2, r.mono (t1.trans t2), h2, fun H3 G3 t3 s3 h3 => c _ H3 _ G3 ((t1.trans t2).trans t3) (hs.mono ((t1.trans t2).trans t3)) s3 h3⟩⟩⟩
end
end L3

set_option Elab.async false
set_option linter.all false
set_option maxRecDepth 100000
namespace L3
open PySem PySem.Spec L2
open PyProof.Rows hiding St

/-! ### attributes -/
def putFW (f : Str) (v : W) : List (Str × W) → List (Str × W)
  | [] => [(f, v)]
  | (g, w) :: r => if g = f then (g, v) :: r else (g, w) :: putFW f v r
abbrev FRel (K : PySem.W.Frag) (H : Hp) : List (Str × W) → List (Str × V) → Prop := Paired fun (p : Str × W) (q : Str × V) => p.1 = q.1 ∧ Rep K H p.2 q.2
section
variable {K : PySem.W.Frag} {H : Hp}
theorem FRel.look {fs : List (Str × W)} {gs : List (Str × V)} (r : FRel K H fs gs) (f : Str) : (∃ w v, fs.lookup f = some w ∧ gs.lookup f = some v ∧ Rep K H w v) ∨ (fs.lookup f = none ∧ gs.lookup f = none) := by
  induction r with
  | nil => exact .inr ⟨rfl, rfl⟩
  | @cons p q ps qs h t ih =>
    obtain ⟨g, w⟩ := p
    obtain ⟨g', v⟩ := q
    obtain ⟨h1, h2⟩ := h
    simp only at h1 h2
    subst h1
    simp only [List.lookup_cons]
    cases e : f == g with
    | true => exact .inl ⟨w, v, rfl, rfl, h2⟩
    | false => exact ih
theorem FRel.put {fs : List (Str × W)} {gs : List (Str × V)} (r : FRel K H fs gs) (f : Str) {w : W} {v : V} (h : Rep K H w v) : FRel K H (putFW f w fs) (putF f v gs) := by
  induction r with
  | nil => exact .cons ⟨rfl, h⟩ .nil
  | @cons p q ps qs hh t ih =>
    obtain ⟨g, w'⟩ := p
    obtain ⟨g', v'⟩ := q
    obtain ⟨h1, h2⟩ := hh
    simp only at h1 h2
    subst h1
    unfold putFW putF
    by_cases e : g = f
    · rw [if_pos e, if_pos e]; exact .cons ⟨rfl, h⟩ t
    · rw [if_neg e, if_neg e]; exact .cons ⟨rfl, h2⟩ ih
end
section
variable {X : Cx} {o e value : Expr} {f : Str} {pos pos' : Pos} {ta tv : TE2} {C : Addr}
def uFld (C : Addr) (f : Str) (ta : TE2) : TE2 := fun τ G Q => ta τ G fun x G1 => match x with
  | .ref a => ∃ fs w, G1 a = some (.ins C fs) ∧ fs.lookup f = some w ∧ Q w G1
  | _ => False
theorem e_fld (cl : Cls X.K C) (n : NoAttr X.K C f) (he : PE2 X e ta) (hb : attributeBase e f X.env (eval e X.env) = eval e X.env := by rfl) : PE2 X (.Attribute e f pos) (uFld C f ta) :=
  PE.imp (pe_fld he hb) fun σ H Q ⟨τ, G, Q2, hs, hg, ht, hc⟩ => ⟨τ, G, _, hs, hg, ht, fun v H1 w G1 t1 s1 r1 h1 => by
    cases w <;> first | exact False.elim h1 | skip
    cases r1
    obtain ⟨fs, z, e1, e2, q⟩ := h1
    obtain ⟨dx, gs, h2, rel⟩ := s1 _ _ e1
    rcases FRel.look rel f with ⟨z', zv, l1, l2, rz⟩ | ⟨l1, _⟩
    · rw [e2] at l1; cases l1
      exact ⟨_, C, dx, gs, zv, rfl, h2, cl, n, l2, hc _ H1 _ G1 t1 s1 rz q⟩
    · rw [e2] at l1; cases l1⟩
def uSFld (C : Addr) (f : Str) (ta tv : TE2) : TS2 := fun D τ G => tv τ G fun y G1 => ta τ G1 fun x G2 => match x with
  | .ref a => ∃ fs, G2 a = some (.ins C fs) ∧ fs.length < 1000 ∧ D.nx τ (gup G2 a (.ins C (putFW f y fs)))
  | _ => False
theorem s_fld (cl : Cls X.K C) (n : NoAttr X.K C f) (ha : PE2 X o ta) (hv : PE2 X value tv) (hs : swapsWith value (some (.Attribute o f pos')) pos.line X.env = pure false := by rfl) : PS2 X (.Assign [.Attribute o f pos'] value pos) (uSFld C f ta tv) :=
  PS.imp (ps_fld ha hv hs) fun D σ H ⟨τ, G, D2, hs, hg, ht, le⟩ => ⟨τ, G, _, hs, hg, ht, fun y H1 yw G1 t1 s1 r1 h1 => ⟨τ, G1, _, hs.mono t1, s1, h1, fun v H2 w G2 t2 s2 r2 h2 => by
    cases w <;> first | exact False.elim h2 | skip
    cases r2
    obtain ⟨fs, e1, hl, q⟩ := h2
    have mu := (s2 _ _ e1).mut
    obtain ⟨dx, gs, h3, rel⟩ := s2 _ _ e1
    refine ⟨_, C, dx, gs, rfl, h3, cl, n, by rw [← Paired.len rel]; exact hl, ?_⟩
    have t3 := (t1.trans t2).trans (TX.write (o := .ins C dx (putF f y gs)) mu)
    refine le.nx σ _ τ _ t3 (hs.mono t3) (s2.write mu (.i upd_same ?_)) q
    exact Paired.mapP (FRel.put rel f (r1.mono t2)) fun _ _ z => ⟨z.1, z.2.mono (.write mu)⟩⟩⟩
end

/-! ### calls -/
abbrev XK2 := Value → List (Str × W) → WH → Prop
abbrev Sp2 := List W → WH → VK2 → XK2 → Prop
def XRel (K : PySem.W.Frag) (H : Hp) (xd : Option Addr) (fs : List (Str × W)) : Prop := match xd with
  | none => fs = []
  | some d => ∃ gs, H d = some (.xd gs) ∧ FRel K H fs gs
def ContX (K : PySem.W.Frag) (H : Hp) (E2 : XK2) (E : XK) : Prop := ∀ c xd H' fs G', TX H H' → Sim K G' H' → XRel K H' xd fs → E2 c fs G' → E c xd H'
def lowSp (K : PySem.W.Frag) (sp : Sp2) : Sp := fun vs H Q E => ∃ ws G Q2 E2, Reps K H ws vs ∧ Sim K G H ∧ sp ws G Q2 E2 ∧ Cont K H Q2 Q ∧ ContX K H E2 E
def noX : XK2 := fun _ _ _ => False
theorem contX0 {K : PySem.W.Frag} {H : Hp} : ContX K H noX E0 := fun _ _ _ _ _ _ _ _ h => h
section
variable {X : Cx} {k : Nat} {f C : Addr} {fd : FuncData} {ps : List Str} {sp : Sp2} {x m : Str} {p pos apos : Pos} {e o : Expr} {es : List Expr} {ta : TE2} {t : TA2}
def uCall (sp : Sp2) (dws : List W) (t : TA2) : TE2 := fun τ G Q => t τ G fun ws G1 => sp (ws ++ dws) G1 Q noX
theorem low_call {K : PySem.W.Frag} {dws : List W} {dvs : List V} (hd : ∀ H, Reps K H dws dvs) (σ : St) (H : Hp) (Q : VK) (h : low K (uCall sp dws t) σ H Q) : tCall (lowSp K sp) dvs E0 (lowA K t) σ H Q := by
  obtain ⟨τ, G, Q2, hs, hg, ht, hc⟩ := h
  exact ⟨τ, G, _, hs, hg, ht, fun vs H1 ws G1 t1 s1 r1 h1 => ⟨_, G1, Q2, noX, r1.append (hd H1), s1, h1, hc.mono t1, contX0⟩⟩
theorem e_call (F : FnOk X.prog X.w X.K X.mg X.base CX0 k f fd ps (lowSp X.K sp)) (hr : Room k X.A) (hg : Gl X x) (hm : X.mg x = some (.ref f)) (hk : PySem.W.keepIn X.K (.ref f) = true) (hb : Binds X.K fd ps [])
    (ha : PA2 X (e :: es) t) (hdb : (x == ("__debug__" : Str)) = false := by decide) (he : starEach (e :: es) X.env = (false, eval e X.env) :: starEach es X.env := by rfl) (hpl : (backTo pos (starEach es X.env)).any (·.1) = false := by rfl) :
    PE2 X (.Call (.Name x p) (e :: es) [] pos) (uCall sp [] t) :=
  PE.imp (pe_call F hr hg hm hk hb .nil pass0 ha hdb he hpl) (low_call fun _ => .nil)
/-- with defaults that fill up -/
theorem e_callD {dws : List W} {dvs : List V} {ds : List Value} (F : FnOk X.prog X.w X.K X.mg X.base CX0 k f fd ps (lowSp X.K sp)) (hr : Room k X.A) (hg : Gl X x) (hm : X.mg x = some (.ref f)) (hk : PySem.W.keepIn X.K (.ref f) = true) (hb : Binds X.K fd ps ds) (hd : Vals dvs ds) (hdw : ∀ H, Reps X.K H dws dvs)
    (ha : PA2 X (e :: es) t) (hdb : (x == ("__debug__" : Str)) = false := by decide) (he : starEach (e :: es) X.env = (false, eval e X.env) :: starEach es X.env := by rfl) (hpl : (backTo pos (starEach es X.env)).any (·.1) = false := by rfl) :
    PE2 X (.Call (.Name x p) (e :: es) [] pos) (uCall sp dws t) :=
  PE.imp (pe_call F hr hg hm hk hb hd pass0 ha hdb he hpl) (low_call hdw)
def uMeth (C : Addr) (m : Str) (sp : Sp2) (ta : TE2) (t : TA2) : TE2 := fun τ G Q => ta τ G fun x G1 => match x with
  | .ref a => (∃ fs, G1 a = some (.ins C fs) ∧ fs.lookup m = none) ∧ t τ G1 fun ws G2 => sp (.ref a :: ws) G2 Q noX
  | _ => False
theorem low_meth {K : PySem.W.Frag} (σ : St) (H : Hp) (Q : VK) (h : low K (uMeth C m sp ta t) σ H Q) : tMeth C m (lowSp K sp) [] E0 (low K ta) (lowA K t) σ H Q := by
  obtain ⟨τ, G, Q2, hs, hg, ht, hc⟩ := h
  refine ⟨τ, G, _, hs, hg, ht, fun v H1 w G1 t1 s1 r1 h1 => ?_⟩
  cases w <;> first | exact False.elim h1 | skip
  cases r1
  obtain ⟨⟨fs, e1, e2⟩, h1⟩ := h1
  obtain ⟨dx, gs, h2, rel⟩ := s1 _ _ e1
  refine ⟨_, dx, gs, rfl, h2, ?_, τ, G1, _, hs.mono t1, s1, h1, fun vs H2 ws G2 t2 s2 r2 h2 => ?_⟩
  · rcases FRel.look rel m with ⟨_, _, l1, _⟩ | ⟨_, l2⟩
    · rw [e2] at l1; cases l1
    · exact l2
  · show lowSp K sp (V.ref _ :: (vs ++ [])) H2 Q E0
    rw [List.append_nil]
    exact ⟨_, G2, Q2, noX, .cons (.ref _) r2, s2, h2, hc.mono (t1.trans t2), contX0⟩
theorem e_meth {pl : Sem Bool} (he : PE2 X o ta) (c : Cls X.K C) (hm : Meth X.K C m f) (F : FnOk X.prog X.w X.K X.mg X.base CX0 k f fd ps (lowSp X.K sp)) (hr : Room k X.A) (hb : Binds X.K fd ps []) (ha : PA2 X (e :: es) t)
    (hst : starEach (e :: es) X.env = (false, eval e X.env) :: starEach es X.env := by rfl) (hpl : (backTo pos (starEach es X.env)).any (·.1) = false := by rfl)
    (ht : eval (.Call (.Attribute o m apos) (e :: es) [] pos) X.env = (do
      let ov ← eval o X.env
      standAt apos.atName
      let (f, first) ← holding [ov] (getMethod ov m pl)
      callWith pos f first (backTo pos (starEach (e :: es) X.env)) (backToKw pos (keywordEach [] X.env))) := by rfl) :
    PE2 X (.Call (.Attribute o m apos) (e :: es) [] pos) (uMeth C m sp ta t) := PE.imp (pe_meth he c hm F hr hb .nil pass0 ha hst hpl ht) low_meth
theorem e_meth0 {pl : Sem Bool} (he : PE2 X o ta) (c : Cls X.K C) (hm : Meth X.K C m f) (F : FnOk X.prog X.w X.K X.mg X.base CX0 k f fd ps (lowSp X.K sp)) (hr : Room k X.A) (hb : Binds X.K fd ps [])
    (ht : eval (.Call (.Attribute o m apos) [] [] pos) X.env = (do
      let ov ← eval o X.env
      standAt apos.atName
      let (f, first) ← holding [ov] (getMethod ov m pl)
      callWith pos f first (backTo pos (starEach [] X.env)) (backToKw pos (keywordEach [] X.env))) := by rfl) :
    PE2 X (.Call (.Attribute o m apos) [] [] pos) (uMeth C m sp ta uNil) := PE.imp (pe_meth0 he c hm F hr hb .nil pass0 ht) fun σ H Q h => by
  obtain ⟨τ, G, Q2, hs, hg, ht, hc⟩ := h
  refine ⟨τ, G, _, hs, hg, ht, fun v H1 w G1 t1 s1 r1 h1 => ?_⟩
  cases w <;> first | exact False.elim h1 | skip
  cases r1
  obtain ⟨⟨fs, e1, e2⟩, h1⟩ := h1
  obtain ⟨dx, gs, h2, rel⟩ := s1 _ _ e1
  refine ⟨_, dx, gs, rfl, h2, ?_, ?_⟩
  · rcases FRel.look rel m with ⟨_, _, l1, _⟩ | ⟨_, l2⟩
    · rw [e2] at l1; cases l1
    · exact l2
  · exact ⟨_, G1, Q2, noX, .cons (.ref _) .nil, s1, h1, hc.mono t1, contX0⟩
def uMake (C : Addr) (sp : Sp2) (t : TA2) : TE2 := fun τ G Q => t τ G fun ws G1 => ∀ x, G1 x = none → sp (.ref x :: ws) (gup G1 x (.ins C [])) (fun w G2 => w = .non ∧ Q (.ref x) G2) noX
theorem low_make {K : PySem.W.Frag} {vs : List V} {ws : List W} {H1 : Hp} {G1 : WH} {Q : VK} {Q2 : VK2} (s1 : Sim K G1 H1) (r1 : Reps K H1 ws vs) (hc : Cont K H1 Q2 Q)
    (h1 : ∀ x, G1 x = none → sp (.ref x :: ws) (gup G1 x (.ins C [])) (fun w G2 => w = .non ∧ Q2 (.ref x) G2) noX) (x dx : Addr) (nx : H1 x = none) (nd : H1 dx = none) (ne : dx ≠ x) :
    lowSp K sp (.ref x :: (vs ++ [])) (upd (upd H1 dx (.own x)) x (.ins C dx [])) (fun v H2 => v = .non ∧ Q (.ref x) H2) E0 := by
  have nx' : upd H1 dx (.own x) x = none := by rw [upd_ne (Ne.symm ne)]; exact nx
  have t2 : TX H1 (upd (upd H1 dx (.own x)) x (.ins C dx [])) := (TX.fresh nd).trans (.fresh nx')
  rw [List.append_nil]
  refine ⟨_, _, _, noX, .cons (.ref x) (r1.mono t2), (s1.fresh nd).laid nx' (.i upd_same .nil), h1 x (s1.no nx), fun v H2 w G2 t3 s3 r3 h3 => ?_, contX0⟩
  obtain ⟨e, q⟩ := h3
  subst e
  cases r3
  exact ⟨rfl, hc _ H2 _ G2 (t2.trans t3) s3 (.ref x) q⟩
theorem e_make (M : Mk X.K C f) (F : FnOk X.prog X.w X.K X.mg X.base CX0 k f fd ps (lowSp X.K sp)) (hr : Room (k + 1) X.A) (hg : Gl X x) (hm : X.mg x = some (.ref C)) (hb : Binds X.K fd ps [])
    (ha : PA2 X (e :: es) t) (hdb : (x == ("__debug__" : Str)) = false := by decide) (he : starEach (e :: es) X.env = (false, eval e X.env) :: starEach es X.env := by rfl) (hpl : (backTo pos (starEach es X.env)).any (·.1) = false := by rfl) :
    PE2 X (.Call (.Name x p) (e :: es) [] pos) (uMake C sp t) := PE.imp (pe_make M F hr hg hm hb .nil pass0 ha hdb he hpl) fun σ H Q ⟨τ, G, Q2, hs, hg, ht, hc⟩ =>
  ⟨τ, G, _, hs, hg, ht, fun vs H1 ws G1 t1 s1 r1 h1 x dx nx nd ne => low_make s1 r1 (hc.mono t1) h1 x dx nx nd ne⟩
theorem e_make0 (M : Mk X.K C f) (F : FnOk X.prog X.w X.K X.mg X.base CX0 k f fd ps (lowSp X.K sp)) (hr : Room (k + 1) X.A) (hg : Gl X x) (hm : X.mg x = some (.ref C)) (hb : Binds X.K fd ps [])
    (hdb : (x == ("__debug__" : Str)) = false := by decide) : PE2 X (.Call (.Name x p) [] [] pos) (uMake C sp uNil) := PE.imp (pe_make0 M F hr hg hm hb .nil pass0 hdb) fun σ H Q ⟨τ, G, Q2, hs, hg, ht, hc⟩ =>
  fun x dx nx nd ne => low_make hg .nil hc ht x dx nx nd ne
end

/-! ### a def by its body -/
def start2 (N : List Str) (ws : List W) : St2 := ws.map some ++ List.replicate (N.length - ws.length) none
theorem Reps.begin {K : PySem.W.Frag} {H : Hp} {N : List Str} {ws : List W} {vs : List V} (r : Reps K H ws vs) : SimS K H (start2 N ws) (start N vs) := by
  have hl := r.length
  refine ⟨by simp [start2, L2.start, hl], fun i w e => ?_⟩
  unfold start2 at e
  unfold L2.start
  by_cases hi : i < ws.length
  · rw [List.getElem?_append_left (by simpa using hi), List.getElem?_map] at e
    cases q : ws[i]? with
    | none => rw [q] at e; cases e
    | some z =>
      rw [q] at e
      have e' : z = w := by
        have e1 : some (some z) = some (some w) := e
        exact Option.some.inj (Option.some.inj e1)
      subst e'
      obtain ⟨v, hv, rv⟩ := r.get q
      refine ⟨v, ?_, rv⟩
      rw [List.getElem?_append_left (by simp; omega), List.getElem?_map, hv]
      rfl
  · rw [List.getElem?_append_right (by simpa using hi), List.getElem?_replicate] at e
    split at e <;> cases e
/-- what was made and is not wanted any more may be forgotten -/
def Less (Q : VK2) : VK2 := fun w G' => ∃ G0, (∀ b u, G0 b = some u → G' b = some u) ∧ Q w G0
theorem Less.of {Q : VK2} {w : W} {G : WH} (h : Q w G) : Less Q w G := ⟨G, fun _ _ e => e, h⟩
def ends (Q : VK2) : Ends2 := { nx := fun _ G' => Less Q .non G', rt := Less Q }
section
variable {P : Program} {w : World} {K : PySem.W.Frag} {mg : Str → Option Value} {base : Heap}
theorem fun_ok2 {x qual : Str} {st : Stmt} {f : Addr} {fd : FuncData} {N ps : List Str} {k : Nat} {sp : Sp2} (F : Fun K x qual st f fd) (S : FnScope N ps (defScope st)) (len : ∀ ws G Q E, sp ws G Q E → ws.length = ps.length)
    (hbody : ∀ (cdv : Value) (A : Around) (outer : List Env) (s : Shared) (H : Hp) (E : XK), Room k (A.deeper (envOfC qual (defScope st) s.heap.objs.size f cdv)) → ∀ (ws : List W) (G : WH) (Q : VK2) (E2 : XK2), sp ws G Q E2 →
      ∃ t, PSs2 (cxOf CX0 P w K mg base N qual (defScope st) f cdv A outer s H E).nox (defBody st) t ∧ t (ends Q) (start2 N ws) G) : FnOk P w K mg base CX0 (k + 1) f fd ps (lowSp K sp) := by
  refine F.ok S (fun vs H Q E ⟨ws, G, Q2, E2, r, s, h, _⟩ => by rw [← r.length]; exact len _ _ _ _ h) fun cdv A outer s H vs Q E hr ⟨ws, G, Q2, E2, r, hg, h, hc, hx⟩ => ?_
  obtain ⟨t, ht, q⟩ := hbody cdv A outer s H E hr ws G Q2 E2 h
  refine ⟨_, ht, start2 N ws, G, _, r.begin, hg, q, ⟨fun σ' H' τ' G' t1 s1 g1 ⟨G0, le, h1⟩ => hc _ H' _ G0 t1 (g1.less le) .non h1, fun v H' w' G' t1 s1 r1 ⟨G0, le, h1⟩ => hc v H' w' G0 t1 (s1.less le) r1 h1, fun _ _ _ _ _ _ _ h => h, fun _ _ _ _ _ _ _ h => h⟩⟩
end

/-! ### for, while -/
section
variable {X : Cx} {tg : Expr} {pos : Pos}
def iSeq (K : PySem.W.Frag) (tl : TE) : TI := fun σ H R => tl σ H fun x H1 => ∃ a, x = .ref a ∧ (((∃ xs, SqL K H1 a xs) ∧ R (Itl K a) H1) ∨ ((∃ xs, SqT K H1 a xs) ∧ R (Itt K a) H1))
theorem pi_seq {l : Expr} {tl : TE} (hl : PE X l tl) : PI X tg l (iSeq X.K tl) := by
  intro pins s σ H R I h
  refine thn (hl pins s σ H _ I h) fun v s1 ⟨x, H1, I1, r1, q1⟩ => ?_
  obtain ⟨a, e, q1⟩ := q1
  subst e
  cases r1
  rcases q1 with ⟨⟨xs, hq⟩, q⟩ | ⟨⟨xs, hq⟩, q⟩
  · obtain ⟨its, rv, p, hz⟩ := I1.list hq
    refine wpAny_pyIter_list p.isList ?_
    refine ⟨s1.heap.objs.size, [s1.heap.objs.size], _, _, H1, rfl, I1.kept (t' := s1.toks) fun b o e => Heap.get?_push_of_some _ e, turn_list a _, ⟨_, Heap.get?_push_size _ rfl, rfl, rfl⟩, fun b hb => ?_, q⟩
    have e : b = s1.heap.objs.size := by simpa using hb
    subst e
    exact I1.fpOk (Nat.le_refl _) (I1.hok.fresh (Nat.le_refl _))
  · obtain ⟨its, rv, p, hz⟩ := I1.tuple hq
    refine wpAny_pyIter_tuple (show s1.heap.IsTuple a its.toArray from p) ?_
    refine ⟨s1.heap.objs.size, [s1.heap.objs.size], _, _, H1, rfl, I1.kept (t' := s1.toks) fun b o e => Heap.get?_push_of_some _ e, turn_tuple a _, ⟨_, Heap.get?_push_size _ rfl, rfl, rfl⟩, fun b hb => ?_, q⟩
    have e : b = s1.heap.objs.size := by simpa using hb
    subst e
    exact I1.fpOk (Nat.le_refl _) (I1.hok.fresh (Nat.le_refl _))
/-- fewer things named, behind a statement -/
def LessS (P : St2 → WH → Prop) : St2 → WH → Prop := fun τ G => ∃ G0, (∀ b u, G0 b = some u → G b = some u) ∧ P τ G0
theorem LessS.of {P : St2 → WH → Prop} {τ : St2} {G : WH} (h : P τ G) : LessS P τ G := ⟨G, fun _ _ e => e, h⟩
/-- a loop over the items ws, as long as valid holds -/
def uLoop : List W → (WH → Prop) → TG2 → TS2 → TS2
  | [], valid, _, _ => fun D τ G => valid G ∧ D.nx τ G
  | w :: ws, valid, g, tb => fun D τ G => valid G ∧ g w τ G fun τ2 G2 => tb { D with nx := LessS (uLoop ws valid g tb D), ct := LessS (uLoop ws valid g tb D), bk := D.nx } τ2 G2
/-- by an invariant: i, the number of turns; what a turn has made may be forgotten -/
theorem loop_invL {valid : WH → Prop} {g : TG2} {tb : TS2} {D : Ends2} (P : Nat → St2 → WH → Prop) : ∀ (ws : List W) (k : Nat) (τ : St2) (G : WH), P k τ G → (∀ i τ G, k ≤ i → i ≤ k + ws.length → P i τ G → valid G) →
    (∀ i w τ G, ws[i]? = some w → P (k + i) τ G → ∀ N : St2 → WH → Prop, (∀ τ' G' G0, (∀ b u, G0 b = some u → G' b = some u) → P (k + i + 1) τ' G0 → N τ' G') → g w τ G fun τ2 G2 => tb { D with nx := N, ct := N, bk := D.nx } τ2 G2) →
    (∀ τ G, P (k + ws.length) τ G → D.nx τ G) → uLoop ws valid g tb D τ G
  | [], k, τ, G, p, va, st, en => ⟨va k τ G (Nat.le_refl _) (Nat.le_add_right _ _) p, en τ G p⟩
  | w :: ws, k, τ, G, p, va, st, en => by
    refine ⟨va k τ G (Nat.le_refl _) (Nat.le_add_right _ _) p, ?_⟩
    refine st 0 w τ G rfl p (LessS (uLoop ws valid g tb D)) fun τ' G' G0 le p' => ⟨G0, le, ?_⟩
    refine loop_invL P ws (k + 1) τ' G0 p' (fun i τ G h1 h2 => va i τ G (by omega) (by simp; omega)) (fun i w τ G h p N hN => ?_) fun τ G p => en τ G ?_
    · refine st (i + 1) w τ G (by simpa using h) (by rw [show k + (i + 1) = k + 1 + i by omega]; exact p) N fun τ' G' G0 le p' => hN τ' G' G0 le ?_
      rw [show k + 1 + i + 1 = k + (i + 1) + 1 by omega]; exact p'
    · rw [show k + (w :: ws).length = k + 1 + ws.length by simp; omega]; exact p
theorem loop_inv {valid : WH → Prop} {g : TG2} {tb : TS2} {D : Ends2} (P : Nat → St2 → WH → Prop) (ws : List W) (k : Nat) (τ : St2) (G : WH) (p : P k τ G) (va : ∀ i τ G, k ≤ i → i ≤ k + ws.length → P i τ G → valid G)
    (st : ∀ i w τ G, ws[i]? = some w → P (k + i) τ G → ∀ N : St2 → WH → Prop, (∀ τ' G', P (k + i + 1) τ' G' → N τ' G') → g w τ G fun τ2 G2 => tb { D with nx := N, ct := N, bk := D.nx } τ2 G2)
    (en : ∀ τ G, P (k + ws.length) τ G → D.nx τ G) : uLoop ws valid g tb D τ G :=
  loop_invL P ws k τ G p va (fun i w τ G h p N hN => st i w τ G h p N fun τ' G' q => hN τ' G' G' (fun _ _ e => e) q) en
theorem loop_low {K : PySem.W.Frag} {J : It} {ws : List W} {valid : WH → Prop} {g : TG2} {tb : TS2} {D2 : Ends2} {D : Ends} {τ : St2} {σ : St} {G1 : WH} {H1 : Hp} (hs : SimS K H1 τ σ) (hg : Sim K G1 H1) (le : EndsLe K H1 D2 D)
    (hgo : ∀ i H G w, TX H1 H → Sim K G H → valid G → ws[i]? = some w → J.go i H ∧ ∀ x H', J.yld i H x H' → TX H H' ∧ Sim K G H' ∧ Rep K H' w x)
    (hstop : ∀ H G, TX H1 H → Sim K G H → valid G → J.stop ws.length H) (h : uLoop ws valid g tb D2 τ G1) :
    ∃ W' : Nat → Nat → St → Hp → Prop, (∃ m, W' 0 m σ H1) ∧ ∀ i m σ H, W' i m σ H →
      (J.stop i H ∧ D.nx σ H) ∨ (J.go i H ∧ ∃ N : St → Hp → Prop, (∀ σ' H', N σ' H' → ∃ m', m' < m ∧ W' (i + 1) m' σ' H') ∧ ∀ x H', J.yld i H x H' → lowG K g x σ H' fun σ2 H2 => lowS K tb { D with nx := N, ct := N, bk := D.nx } σ2 H2) := by
  refine ⟨fun i m σ H => m = ws.length - i ∧ i ≤ ws.length ∧ ∃ τ G, SimS K H τ σ ∧ Sim K G H ∧ uLoop (ws.drop i) valid g tb D2 τ G ∧ TX H1 H, ⟨ws.length, by simp, Nat.zero_le _, τ, G1, hs, hg, h, .refl H1⟩, ?_⟩
  rintro i m σ H ⟨rfl, hi, τ, G, s1, g1, p, tx⟩
  by_cases hlt : i < ws.length
  · rw [List.drop_eq_getElem_cons hlt] at p
    obtain ⟨va, p⟩ := p
    obtain ⟨go, yld⟩ := hgo i H G ws[i] tx g1 va (by simp [hlt])
    refine .inr ⟨go, fun σ' H' => ∃ τ' G', SimS K H' τ' σ' ∧ Sim K G' H' ∧ uLoop (ws.drop (i + 1)) valid g tb D2 τ' G' ∧ TX H1 H', fun σ' H' ⟨τ', G', a, b, c, d⟩ => ⟨ws.length - (i + 1), by omega, rfl, hlt, τ', G', a, b, c, d⟩, fun x H' y => ?_⟩
    obtain ⟨t2, g2, r2⟩ := yld x H' y
    refine ⟨ws[i], τ, G, _, r2, s1.mono t2, g2, p, fun σ2 H2 τ2 G2 t3 s3 g3 h3 => ?_⟩
    have t4 := (tx.trans t2).trans t3
    refine ⟨τ2, G2, _, s3, g3, h3, ⟨fun σ' H' τ' G' t s g ⟨G0, le0, h⟩ => ⟨τ', G0, s, g.less le0, h, t4.trans t⟩, (le.mono t4).rt, fun σ' H' τ' G' t s g h => le.nx σ' H' τ' G' (t4.trans t) s g h, fun σ' H' τ' G' t s g ⟨G0, le0, h⟩ => ⟨τ', G0, s, g.less le0, h, t4.trans t⟩⟩⟩
  · have e : i = ws.length := by omega
    subst e
    rw [List.drop_length] at p
    exact .inl ⟨hstop H G tx g1 p.1, le.nx σ H τ G tx s1 g1 p.2⟩
def uFor (ta : TE2) (g : TG2) (tb : TS2) : TS2 := fun D τ G => ta τ G fun w G1 => match w with
  | .scr ws => uLoop ws (fun _ => True) g tb D τ G1
  | .tup ws => uLoop ws (fun _ => True) g tb D τ G1
  | .ref a => ∃ ws, G1 a = some (.lst ws) ∧ uLoop ws (fun G => G a = some (.lst ws)) g tb D τ G1
  | _ => False
theorem s_for {iter : Expr} {body : List Stmt} {ta : TE2} {g : TG2} {tb : TS2} (hp : PassesOwn (model X.prog X.w) X.A X.env X.xe) (hc : X.calm = true) (hi : PE2 X iter ta) (hg : PG2 X tg g) (hb : PSs2 X body tb)
    (hs : ∀ x, foldedSetIterable iter X.env x = pure x := by intro _; rfl) : PS2 X (.For tg iter body [] pos) (uFor ta g tb) :=
  PS.imp (ps_for hp hc (pi_seq hi) hg hb hs) fun D σ H ⟨τ, G, D2, hs, hg, ht, le⟩ => ⟨τ, G, _, hs, hg, ht, fun v H1 w G1 t1 s1 r1 h1 => by
    cases w <;> first | exact False.elim h1 | skip
    case scr ws =>
      cases r1 with
      | @scr a vs _ t r =>
        refine ⟨_, rfl, .inl ⟨⟨_, t.sq⟩, loop_low (hs.mono t1) s1 (le.mono t1) (fun i H' G' w' tx sg _ e => ?_) (fun H' G' tx sg _ => ⟨_, (t.mono tx).sq, by rw [← r.length]; exact Nat.le_refl _⟩) h1⟩⟩
        obtain ⟨v, e', rv⟩ := r.get e
        exact ⟨⟨_, v, (t.mono tx).sq, e'⟩, fun x H'' ⟨eq, y⟩ => by subst eq; have := y _ (t.mono tx).sq; rw [e'] at this; cases this; exact ⟨.refl _, sg, rv.mono tx⟩⟩
    case tup ws =>
      cases r1 with
      | @tup a vs _ t r =>
        refine ⟨_, rfl, .inr ⟨⟨_, t.sq⟩, loop_low (hs.mono t1) s1 (le.mono t1) (fun i H' G' w' tx sg _ e => ?_) (fun H' G' tx sg _ => ⟨_, (t.mono tx.tup).sq, by rw [← r.length]; exact Nat.le_refl _⟩) h1⟩⟩
        obtain ⟨v, e', rv⟩ := r.get e
        exact ⟨⟨_, v, (t.mono tx.tup).sq, e'⟩, fun x H'' ⟨eq, y⟩ => by subst eq; have := y _ (t.mono tx.tup).sq; rw [e'] at this; cases this; exact ⟨.refl _, sg, rv.mono tx⟩⟩
    case ref a =>
      cases r1
      obtain ⟨ws, e1, h1⟩ := h1
      obtain ⟨vs0, hv0, _⟩ := s1 _ _ e1
      refine ⟨_, rfl, .inl ⟨⟨_, .of hv0⟩, loop_low (hs.mono t1) s1 (le.mono t1) (fun i H' G' w' tx sg va e => ?_) (fun H' G' tx sg va => ?_) h1⟩⟩
      · obtain ⟨vs, hv, r⟩ := sg _ _ va
        obtain ⟨v, e', rv⟩ := r.get e
        exact ⟨⟨_, v, .of hv, e'⟩, fun x H'' ⟨eq, y⟩ => by subst eq; have := y _ (.of hv); rw [e'] at this; cases this; exact ⟨.refl _, sg, rv⟩⟩
      · obtain ⟨vs, hv, r⟩ := sg _ _ va
        exact ⟨_, .of hv, by rw [← r.length]; exact Nat.le_refl _⟩⟩
/-- for k in range(n), range(m, n) -/
def rangeW (lo : Int) (n : Nat) : List W := (List.range n).map fun (k : Nat) => .int (lo + (k : Int))
theorem rangeW_len (lo : Int) (n : Nat) : (rangeW lo n).length = n := by simp [rangeW]
theorem rangeW_get {lo : Int} {n i : Nat} {w : W} (h : (rangeW lo n)[i]? = some w) : i < n ∧ w = .int (lo + i) := by
  have hl := (List.getElem?_eq_some_iff.mp h).1
  rw [rangeW_len] at hl
  refine ⟨hl, ?_⟩
  simp [rangeW, hl] at h
  exact h.symm
def uForR1 (t : TA2) (g : TG2) (tb : TS2) : TS2 := fun D τ G => t τ G fun ws G1 => match ws with
  | [.int j] => -(2 ^ 62) ≤ j ∧ j < 2 ^ 62 ∧ uLoop (rangeW 0 j.toNat) (fun _ => True) g tb D τ G1
  | _ => False
def uForR2 (t : TA2) (g : TG2) (tb : TS2) : TS2 := fun D τ G => t τ G fun ws G1 => match ws with
  | [.int i, .int j] => (-(2 ^ 62) ≤ i ∧ i < 2 ^ 62 ∧ -(2 ^ 62) ≤ j ∧ j < 2 ^ 62) ∧ uLoop (rangeW i (j - i).toNat) (fun _ => True) g tb D τ G1
  | _ => False
theorem range_low {K : PySem.W.Frag} {lo : Int} {n : Nat} {g : TG2} {tb : TS2} {D2 : Ends2} {D : Ends} {τ : St2} {σ : St} {G1 : WH} {H1 : Hp} (hs : SimS K H1 τ σ) (hg : Sim K G1 H1) (le : EndsLe K H1 D2 D) (h : uLoop (rangeW lo n) (fun _ => True) g tb D2 τ G1) :
    ∃ W' : Nat → Nat → St → Hp → Prop, (∃ m, W' 0 m σ H1) ∧ ∀ i m σ H, W' i m σ H →
      ((Itr lo n).stop i H ∧ D.nx σ H) ∨ ((Itr lo n).go i H ∧ ∃ N : St → Hp → Prop, (∀ σ' H', N σ' H' → ∃ m', m' < m ∧ W' (i + 1) m' σ' H') ∧ ∀ x H', (Itr lo n).yld i H x H' → lowG K g x σ H' fun σ2 H2 => lowS K tb { D with nx := N, ct := N, bk := D.nx } σ2 H2) :=
  loop_low (J := Itr lo n) hs hg le (fun i H' G' w' tx sg _ e => by
    obtain ⟨hi, rfl⟩ := rangeW_get e
    exact ⟨hi, fun x H'' ⟨eq, y⟩ => by subst eq y; exact ⟨.refl _, sg, .int _⟩⟩) (fun H' G' tx sg _ => by rw [rangeW_len]; exact Nat.le_refl _) h
theorem s_forR1 {a : Expr} {body : List Stmt} {t : TA2} {g : TG2} {tb : TS2} {p pos' : Pos} (hp : PassesOwn (model X.prog X.w) X.A X.env X.xe) (hc : X.calm = true) (hgl : Gl X "range") (hm : X.mg "range" = none) (ha : PA2 X [a] t) (hg : PG2 X tg g) (hb : PSs2 X body tb)
    (hs : starEach [a] X.env = [(false, eval a X.env)] := by rfl) (hf : ∀ x, foldedSetIterable (.Call (.Name "range" p) [a] [] pos') X.env x = pure x := by intro _; rfl) : PS2 X (.For tg (.Call (.Name "range" p) [a] [] pos') body [] pos) (uForR1 t g tb) :=
  PS.imp (ps_for hp hc (pi_range1 hgl hm ha hs) hg hb hf) fun D σ H ⟨τ, G, D2, hs, hg, ht, le⟩ => ⟨τ, G, _, hs, hg, ht, fun vs H1 ws G1 t1 s1 r1 h1 => by
    split at h1
    · cases r1 with | cons r1 r2 => cases r2; cases r1; exact ⟨_, rfl, h1.1, h1.2.1, range_low (hs.mono t1) s1 (le.mono t1) h1.2.2⟩
    · exact False.elim h1⟩
theorem s_forR2 {a b : Expr} {body : List Stmt} {t : TA2} {g : TG2} {tb : TS2} {p pos' : Pos} (hp : PassesOwn (model X.prog X.w) X.A X.env X.xe) (hc : X.calm = true) (hgl : Gl X "range") (hm : X.mg "range" = none) (ha : PA2 X [a, b] t) (hg : PG2 X tg g) (hb : PSs2 X body tb)
    (hs : starEach [a, b] X.env = [(false, eval a X.env), (false, eval b X.env)] := by rfl) (hs2 : starEach [b] X.env = [(false, eval b X.env)] := by rfl) (hf : ∀ x, foldedSetIterable (.Call (.Name "range" p) [a, b] [] pos') X.env x = pure x := by intro _; rfl) : PS2 X (.For tg (.Call (.Name "range" p) [a, b] [] pos') body [] pos) (uForR2 t g tb) :=
  PS.imp (ps_for hp hc (pi_range2 hgl hm ha hs hs2) hg hb hf) fun D σ H ⟨τ, G, D2, hs, hg, ht, le⟩ => ⟨τ, G, _, hs, hg, ht, fun vs H1 ws G1 t1 s1 r1 h1 => by
    split at h1
    · cases r1 with | cons r1 r2 => cases r2 with | cons r2 r3 => cases r3; cases r1; cases r2; exact ⟨_, _, rfl, h1.1, range_low (hs.mono t1) s1 (le.mono t1) h1.2⟩
    · exact False.elim h1⟩
/-- while, by a measure -/
def uWhile (c : TT2) (tb : TS2) : TS2 := fun D τ G => ∃ P : Nat → St2 → WH → Prop, (∃ m, P m τ G) ∧ ∀ m τ G, P m τ G →
  c τ G fun b G1 => if b = true then tb { D with nx := LessS fun τ' G' => ∃ m', m' < m ∧ P m' τ' G', ct := LessS fun τ' G' => ∃ m', m' < m ∧ P m' τ' G', bk := D.nx } τ G1 else D.nx τ G1
theorem s_while {c : Expr} {body : List Stmt} {tc : TT2} {tb : TS2} (hp : PassesOwn (model X.prog X.w) X.A X.env X.xe) (hc : PT2 X c tc) (hb : PSs2 X body tb) : PS2 X (.While c body [] pos) (uWhile tc tb) :=
  PS.imp (ps_while hp hc hb) fun D σ H ⟨τ, G, D2, hs, hg, ⟨P, ⟨m0, p0⟩, turn⟩, le⟩ => by
    refine ⟨fun m σ' H' => ∃ τ' G', SimS X.K H' τ' σ' ∧ Sim X.K G' H' ∧ P m τ' G' ∧ TX H H', ⟨m0, τ, G, hs, hg, p0, .refl H⟩, ?_⟩
    rintro m σ1 H1 ⟨τ1, G1, s1, g1, p1, tx⟩
    refine ⟨τ1, G1, _, s1, g1, turn m τ1 G1 p1, fun b H2 G2 t2 g2 h2 => ?_⟩
    have t3 := tx.trans t2
    cases b with
    | false => exact le.nx σ1 H2 τ1 G2 t3 (s1.mono t2) g2 h2
    | true =>
      refine ⟨fun σ' H' => ∃ m', m' < m ∧ ∃ τ' G', SimS X.K H' τ' σ' ∧ Sim X.K G' H' ∧ P m' τ' G' ∧ TX H H', fun σ' H' ⟨m', hm, q⟩ => ⟨m', hm, q⟩, ?_⟩
      refine ⟨τ1, G2, _, s1.mono t2, g2, h2, ⟨fun σ' H' τ' G' t s g ⟨G0, le0, m', hm, q⟩ => ⟨m', hm, τ', G0, s, g.less le0, q, t3.trans t⟩, (le.mono t3).rt, fun σ' H' τ' G' t s g q => le.nx σ' H' τ' G' (t3.trans t) s g q, fun σ' H' τ' G' t s g ⟨G0, le0, m', hm, q⟩ => ⟨m', hm, τ', G0, s, g.less le0, q, t3.trans t⟩⟩⟩
end
end L3

set_option Elab.async false
set_option linter.all false
set_option maxRecDepth 100000
namespace L3
open PySem PySem.Spec L2
open PyProof.Rows hiding St

/-! ### a list comprehension with one clause: the block's context -/
/-- the names that the block takes from around it -/
def freeOf (scope : Scope) : List Str := (scope.names.filter fun x => x.2 == .free).map (·.1)
theorem closure_go {env : Env} : ∀ (ns : List (Str × NameKind)) (acc : List (Str × Addr)), (∀ x ∈ ns, x.2 = .free → ∃ c, env.cells.lookup x.1 = some c) →
    ∃ cl, (forIn ns acc fun (x : Str × NameKind) (cs : List (Str × Addr)) => (if (x.2 == NameKind.free) = true then (do let c ← cellOf env x.1; pure (ForInStep.yield ((x.1, c) :: cs))) else pure (ForInStep.yield cs) : Sem (ForInStep (List (Str × Addr))))) = pure cl ∧
      ∀ n c, cl.lookup n = some c → acc.lookup n = some c ∨ (env.cells.lookup n = some c) := by
  intro ns
  induction ns with
  | nil => intro acc _; exact ⟨acc, rfl, fun n c h => .inl h⟩
  | cons x r ih =>
    intro acc h
    rw [List.forIn_cons]
    by_cases hk : x.2 = .free
    · obtain ⟨c, hc⟩ := h x List.mem_cons_self hk
      obtain ⟨cl, e, q⟩ := ih ((x.1, c) :: acc) fun y hy => h y (List.mem_cons_of_mem _ hy)
      refine ⟨cl, ?_, fun n c' hl => ?_⟩
      · rw [if_pos (by rw [hk]; rfl)]
        unfold cellOf
        rw [hc]
        exact e
      · rcases q n c' hl with z | z
        · rw [List.lookup_cons] at z
          cases hn : n == x.1 with
          | true =>
            rw [hn] at z
            have e1 : n = x.1 := by simpa using hn
            have e2 : c = c' := by simpa using z
            rw [e1, ← e2]
            exact .inr hc
          | false => rw [hn] at z; exact .inl z
        · exact .inr z
    · obtain ⟨cl, e, q⟩ := ih acc fun y hy => h y (List.mem_cons_of_mem _ hy)
      refine ⟨cl, ?_, q⟩
      rw [if_neg (by simpa using hk)]
      exact e
theorem closure_has {env : Env} : ∀ (ns : List (Str × NameKind)) (acc cl : List (Str × Addr)), (∀ x ∈ ns, x.2 = .free → ∃ c, env.cells.lookup x.1 = some c) →
    (forIn ns acc fun (x : Str × NameKind) (cs : List (Str × Addr)) => (if (x.2 == NameKind.free) = true then (do let c ← cellOf env x.1; pure (ForInStep.yield ((x.1, c) :: cs))) else pure (ForInStep.yield cs) : Sem (ForInStep (List (Str × Addr))))) = pure cl →
      ∀ n, (∃ c, acc.lookup n = some c) ∨ (n, NameKind.free) ∈ ns → ∃ c, cl.lookup n = some c := by
  intro ns
  induction ns with
  | nil =>
    intro acc cl _ e n h
    have e' : acc = cl := by
      have e0 : (pure acc : Sem (List (Str × Addr))) = pure cl := e
      injection e0
    subst e'
    rcases h with h | h
    · exact h
    · exact nomatch h
  | cons x r ih =>
    intro acc cl h e n hn
    rw [List.forIn_cons] at e
    by_cases hk : x.2 = .free
    · obtain ⟨c, hc⟩ := h x List.mem_cons_self hk
      rw [if_pos (by rw [hk]; rfl)] at e
      unfold cellOf at e
      rw [hc] at e
      refine ih ((x.1, c) :: acc) cl (fun y hy => h y (List.mem_cons_of_mem _ hy)) e n ?_
      rcases hn with ⟨c', hc'⟩ | hn
      · refine .inl ?_
        rw [List.lookup_cons]
        cases n == x.1 with
        | true => exact ⟨c, rfl⟩
        | false => exact ⟨c', hc'⟩
      · rcases List.mem_cons.mp hn with z | z
        · refine .inl ⟨c, ?_⟩
          rw [← z, List.lookup_cons]
          simp
        · exact .inr z
    · rw [if_neg (by simpa using hk)] at e
      refine ih acc cl (fun y hy => h y (List.mem_cons_of_mem _ hy)) e n ?_
      rcases hn with z | hn
      · exact .inl z
      · rcases List.mem_cons.mp hn with z | z
        · exact absurd (by rw [← z]) hk
        · exact .inr z
theorem closure_of {scope : Scope} {env : Env} (h : ∀ x ∈ scope.names, x.2 = .free → ∃ c, env.cells.lookup x.1 = some c) :
    ∃ cl, closureFor scope env = pure cl ∧ (∀ n c, cl.lookup n = some c → env.cells.lookup n = some c) ∧ ∀ n, (n, NameKind.free) ∈ scope.names → ∃ c, cl.lookup n = some c := by
  obtain ⟨cl, e, q⟩ := closure_go (env := env) scope.names [] h
  refine ⟨cl, ?_, fun n c hl => ?_, fun n hn => closure_has scope.names [] cl h e n (.inr hn)⟩
  · unfold closureFor
    exact (congrArg (fun m => m >>= fun cs => (pure cs : Sem (List (Str × Addr)))) e).trans rfl
  · rcases q n c hl with z | z
    · exact nomatch z
    · exact z

theorem relabel_mem {scope : Scope} {env : Env} {x : Str} {k : NameKind} (h : (relabel scope env).names.lookup x = some k) : ∃ k0, (x, k0) ∈ scope.names ∧ (k = k0 ∨ (k0 = .free ∧ k = .cell)) := by
  have hm := PySem.mem_of_lookup h
  obtain ⟨⟨n, k0⟩, hy, e⟩ := List.mem_map.mp hm
  dsimp only at e
  split at e
  · rename_i hc
    have e1 : n = x ∧ NameKind.cell = k := by simpa using e
    refine ⟨k0, by rw [← e1.1]; exact hy, .inr ⟨?_, e1.2.symm⟩⟩
    simp only [Bool.and_eq_true] at hc
    simpa using hc.1.1
  · have e1 : n = x ∧ k0 = k := by simpa using e
    exact ⟨k0, by rw [← e1.1]; exact hy, .inl e1.2.symm⟩

def cxBlock (X : Cx) (scope : Scope) (cl : List (Str × Addr)) (C : Addr) (s : Shared) (H : Hp) (fp : List Addr) (N : List Str) : Cx where
  prog := X.prog
  w := X.w
  K := X.K
  mg := X.mg
  base := X.base
  A := X.A
  N := N
  s₀ := s
  H₀ := H
  env := compEnvC scope cl C X.env
  outer := X.stack
  stack := X.stack
  ex := fp
  fn := fun _ => false
  calm := X.calm
  pn := []
  xe := fun _ _ => False
/-- the tests of a clause -/
def PTs (X : Cx) (ifs : List Expr) (t : TT) : Prop :=
  ∀ (pins : List (Addr × Obj)) (s : Shared) (σ : St) (H : Hp) (Q : Bool → Hp → Prop), Inv X pins σ H s → t σ H Q →
    wpAny (model X.prog X.w) X.A (forIn ifs true fun c r => if r = true then do let ok ← isTrue c X.env (eval c X.env); pure (ForInStep.yield ok) else pure (ForInStep.yield r)) (TP X pins σ Q) X.xe s
theorem pts_nil {X : Cx} : PTs X [] (fun _ H Q => Q true H) := fun _ _ _ H _ I h => wpAny_tests_nil ⟨H, I, h⟩
theorem pts_one {X : Cx} {c : Expr} {t : TT} (h : PT X c t) : PTs X [c] t := fun pins s σ H Q I q => wpAny_tests_one (h pins s σ H Q I q)
def tComp (wi : TI) (g : TG) (tc : TT) (te : TE) (cap : List (Option Nat)) : TE := fun σ H Q => wi σ H fun J H1 => ∃ W : Nat → Nat → St → Hp → List V → Prop, (∃ m, W 0 m (cap.map fun o => o.bind fun j => (σ[j]?).join) H1 []) ∧
  ∀ i m σ' H' acc, W i m σ' H' acc → (J.stop i H' ∧ ∀ p, H' p = none → Q (.ref p) (upd H' p (.lst acc))) ∨
    (J.go i H' ∧ acc.length < sizeLine ∧ ∀ x H2, J.yld i H' x H2 → g x σ' H2 fun σ3 H3 => tc σ3 H3 fun b H4 => if b = true then te σ3 H4 fun y H5 => ∃ m', m' < m ∧ W (i + 1) m' σ3 H5 (acc ++ [y]) else ∃ m', m' < m ∧ W (i + 1) m' σ3 H4 acc)

section
variable {prog : Program} {w : World} {A : Around} {R : Result → Shared → Prop} {s : Shared}
/-- the loop of a comprehension, whatever its target -/
theorem comp_loop {elt target iter : Expr} {ifs : List Expr} {scope : Scope} {pos : Pos} {it acc : Value} {env : Env} (I : Nat → Shared → Prop)
    (turn : ∀ n s, I n s → wpAny (model prog w) A (pyNext it) (fun r s₁ => match r with
      | none => R (.ok .next) s₁
      | some v => wpAny (model prog w) A (letOwnedTupleGo target it v) (fun _ s₁' => wpAny (model prog w) A (assign target env v) (fun _ s₂ =>
          wpAny (model prog w) A (forIn ifs true fun c r => if r = true then do let ok ← isTrue c env (eval c env); pure (ForInStep.yield ok) else pure (ForInStep.yield r)) (fun ok s₃ =>
            if ok = true then wpAny (model prog w) A (eval elt env) (fun x s₄ =>
              wpAny (model prog w) A (call (.builtin "list.append") [acc, x]) (fun _ s₅ => ∃ m, m < n ∧ I m s₅) (fun _ _ => False) s₄) (fun _ _ => False) s₃
            else ∃ m, m < n ∧ I m s₃) (fun _ _ => False) s₂) (fun _ _ => False) s₁') (fun _ _ => False) s₁) (fun _ _ => False) s)
    (n : Nat) (h : I n s) : codeAny (model prog w) A (.compLoop (.ListComp elt [⟨target, iter, ifs, 0⟩] scope pos) 0 it acc env) R s := by
  refine codeAny_loop rfl I (fun n s hI => ?_) n h
  show wpAny _ A ((compTurn (.ListComp elt [⟨target, iter, ifs, 0⟩] scope pos) 0 it acc env).onRaise (fun x => do noteFrame x env; theTreesLotGoes x)) _ _ s
  refine wpAny_noted ?_
  rw [compTurn_list]
  refine wpAny_bind (wpAny_standAt (wpAny_bind (wpAny_mono (turn n s hI) (fun r s₁ h₁ => ?_) fun _ _ f => f.elim)))
  cases r with
  | none => exact wpAny_pure h₁
  | some v =>
    refine wpAny_bind (wpAny_mono h₁ (fun _ s₁' h₁' => ?_) fun _ _ f => f.elim)
    refine wpAny_bind (wpAny_mono h₁' (fun _ s₂ h₂ => wpAny_bind (wpAny_mono h₂ (fun ok s₃ h₃ => ?_) fun _ _ f => f.elim)) fun _ _ f => f.elim)
    cases ok with
    | false => exact wpAny_pure ⟨rfl, h₃⟩
    | true =>
      exact wpAny_bind (wpAny_bind (wpAny_mono h₃ (fun x s₄ h₄ => wpAny_bind (wpAny_mono h₄ (fun _ s₅ h₅ => wpAny_pure (wpAny_pure ⟨rfl, h₅⟩)) fun _ _ f => f.elim)) fun _ _ f => f.elim))
end

section
variable {X : Cx} {elt tg iter : Expr} {ifs : List Expr} {scope : Scope} {pos : Pos} {wi : TI} {g : TG} {tc : TT} {te : TE} {cap : List (Option Nat)} {N' : List Str}
theorem block_ok {pins : List (Addr × Obj)} {σ : St} {H : Hp} {s : Shared} {cl : List (Str × Addr)} {C : Addr} {fp : List Addr} (I : Inv X pins σ H s) (hf : ∀ b ∈ fp, FpOk X pins H b ∧ b < s.heap.objs.size) (hC : s.heap.objs.size ≤ C) (hkind : scope.kind = .function)
    (hcell : ∀ y ∈ scope.names, y.2 ≠ .cell) (h1 : ∀ n c, cl.lookup n = some c → X.env.cells.lookup n = some c) (h2 : ∀ n, (n, NameKind.free) ∈ scope.names → ∃ c, cl.lookup n = some c) : (cxBlock X scope cl C s H fp N').Ok where
  mod := I.ok.mod
  kind := hkind
  glob := I.ok.glob
  blt := I.ok.blt
  above := hC
  inj := fun x y c hx hy => I.ok.inj x y c (h1 x c hx) (h1 y c hy)
  has := fun x hx => by
    have : ∃ k0, (x, k0) ∈ scope.names ∧ k0 = .free := by
      rcases hx with hx | hx
      · obtain ⟨k0, m, e⟩ := relabel_mem hx
        rcases e with e | ⟨e, _⟩
        · exact absurd e.symm (hcell _ m)
        · exact ⟨k0, m, e⟩
      · obtain ⟨k0, m, e⟩ := relabel_mem hx
        rcases e with e | ⟨e, _⟩
        · exact ⟨k0, m, e.symm⟩
        · exact ⟨k0, m, e⟩
    obtain ⟨k0, m, e⟩ := this
    subst e
    exact h2 x m
  cab := fun x c h => by cases h
  hd := I.ok.hd
  frames := I.ok.frames
  stk := .inl rfl
  exf := fun b hb => ⟨Nat.ne_of_lt (Nat.lt_of_lt_of_le (hf b hb).2 hC), fun x c e => (hf b hb).1.2.2.2.2.1 x c (h1 x c e)⟩
  bs := I.bs
  bsz := Nat.le_trans I.ok.bsz I.sz
  noex := fun b o e hb => by
    rcases (hf b hb).1.2.2.2.1 with z | z
    · exact I.ok.noex b o e z
    · exact absurd (Nat.lt_of_lt_of_le (Heap.lt_size e) (Nat.le_trans I.ok.bsz z)) (Nat.lt_irrefl _)
  exfs := fun b hb hm => by
    rcases List.mem_cons.mp (I.stkSub b hm) with z | z
    · exact (hf b hb).1.2.1 z
    · exact (hf b hb).1.2.2.1 z
  funs := I.stack
  frf := I.stkFree
end
end L3

set_option Elab.async false
set_option linter.all false
set_option maxRecDepth 100000
namespace L3
open PySem PySem.Spec L2
open PyProof.Rows hiding St
abbrev lob (its : List Value) (k : Nat) : Obj := { cls := .type "list", data := .seq its.toArray k }
section
variable {X : Cx} {elt tg iter : Expr} {ifs : List Expr} {scope : Scope} {pos : Pos} {wi : TI} {g : TG} {tc : TT} {te : TE} {cap : List (Option Nat)} {N' : List Str}
/-- the block's own frame, seen from the frame around it -/
structure OwnC (X : Cx) (pins : List (Addr × Obj)) (H : Hp) (C : Addr) : Prop where
  free : H C = none
  loc : C ≠ X.env.locals
  new : X.s₀.heap.objs.size ≤ C
  cell : ∀ x c, X.env.cells.lookup x = some c → c ≠ C
  pin : ∀ p ∈ X.pn ++ pins, p.1 ≠ C
theorem _root_.L2.Inv.letGo {X : Cx} {pins : List (Addr × Obj)} {σ : St} {H : Hp} {s : Shared} {C : Addr} {h' : Heap} (I : Inv X pins σ H s) (o : OwnC X pins H C) (hs : Heap.SameBut C s.heap h') : Inv X pins σ H { s with heap := h' } :=
  I.turned (it := C) (t' := s.toks) (fun b ob hb e => hs.extBut b ob hb e) o.free o.loc (.inr o.new) o.cell o.pin
/-- what the block wants of the text -/
structure CompOk (X : Cx) (scope : Scope) (cap : List (Option Nat)) (N' : List Str) : Prop where
  kind : scope.kind = .function
  cell : ∀ y ∈ scope.names, y.2 ≠ .cell
  names : ∀ y ∈ scope.names, y.2 = .local → scope.names.lookup y.1 = some .local
  free : ∀ y ∈ scope.names, y.2 = .free → X.env.kindOf y.1 = some .cell
  len : cap.length = N'.length
  cap : ∀ (i j : Nat) (x : Str), cap[i]? = some (some j) → N'[i]? = some x → X.N[j]? = some x ∧ X.env.kindOf x = some .cell ∧ (relabel scope X.env).names.lookup x = some .cell ∧ (x, NameKind.free) ∈ scope.names
/-- the block, from where its iterator stands -/
theorem block_run {pins : List (Addr × Obj)} {σ : St} {H2 : Hp} {s2 : Shared} {Q : VK} {it : Addr} {fp : List Addr} {tn : Nat → Heap → Prop} {J : It} {cl : List (Str × Addr)} {RR : Value → Addr → Result → Shared → Prop} {E : Value → Shared → Prop}
    (hc : X.calm = true) (ok : CompOk X scope cap N') (h1 : ∀ n c, cl.lookup n = some c → X.env.cells.lookup n = some c) (h2 : ∀ n, (n, NameKind.free) ∈ scope.names → ∃ c, cl.lookup n = some c)
    (hb : ∀ cl C s H fp, PG (cxBlock X scope cl C s H fp N') tg g ∧ PTs (cxBlock X scope cl C s H fp N') ifs tc ∧ PE (cxBlock X scope cl C s H fp N') elt te)
    (I2 : Inv X pins σ H2 s2) (T : Turn X.prog X.w X.K tg J fp it tn) (st2 : tn 0 s2.heap) (f2 : ∀ b ∈ fp, FpOk X pins H2 b)
    (W : Nat → Nat → St → Hp → List V → Prop) (w0 : ∃ m, W 0 m (cap.map fun o => o.bind fun j => (σ[j]?).join) H2 [])
    (turn : ∀ i m σ' H' acc, W i m σ' H' acc → (J.stop i H' ∧ ∀ p, H' p = none → Q (.ref p) (upd H' p (.lst acc))) ∨
      (J.go i H' ∧ acc.length < sizeLine ∧ ∀ x H2, J.yld i H' x H2 → g x σ' H2 fun σ3 H3 => tc σ3 H3 fun b H4 => if b = true then te σ3 H4 fun y H5 => ∃ m', m' < m ∧ W (i + 1) m' σ3 H5 (acc ++ [y]) else ∃ m', m' < m ∧ W (i + 1) m' σ3 H4 acc))
    (fin : ∀ (D C : Addr) (s' : Shared) (H' : Hp), (∃ m, s'.heap.Ns C m) → Inv X pins σ H' s' → Q (.ref D) H' → OwnC X pins H' C → RR (.ref D) C (.ok .next) s') :
    wpAny (model X.prog X.w) X.A (newList []) (fun acc s₃ => wpAny (model X.prog X.w) X.A (newFunctionEnv scope X.env.globals cl [] X.env.qual none .none (some X.env)) (fun cenv s₄ =>
      codeAny (model X.prog X.w) X.A (.compStart (.ListComp elt [⟨tg, iter, ifs, 0⟩] scope pos) 0 (.ref it) acc { cenv with scope := relabel scope X.env }) (RR acc cenv.locals) s₄) E s₃) E s2 := by
  obtain ⟨m0, w0⟩ := w0
  refine wpAny_newObj_type (wpAny_newFunctionEnv ok.cell (by intro y hy; simp at hy) (fun h₁ hns₁ hsb₁ => ?_) ok.kind)
  dsimp only at hns₁ hsb₁ ⊢
  generalize hH2 : s2.heap.push { cls := .type "list", dict := none, data := .seq ([] : List Value).toArray } = P2 at hns₁ hsb₁ ⊢
  have hC : P2.objs.size = s2.heap.objs.size + 1 := by rw [← hH2, Heap.size_push]
  have hDC : s2.heap.objs.size ≠ P2.objs.size := by rw [hC]; exact Nat.ne_of_lt (Nat.lt_succ_self _)
  have hCle : s2.heap.objs.size ≤ P2.objs.size := by rw [hC]; exact Nat.le_succ _
  have old : ∀ b o, s2.heap.get? b = some o → h₁.get? b = some o := fun b o e =>
    hsb₁.extBut b o (by rw [hC]; exact Nat.ne_of_lt (Nat.lt_succ_of_lt (Heap.lt_size e))) (Heap.get?_push_of_some _ (hH2 ▸ Heap.get?_push_of_some _ e))
  have hacc : h₁.get? s2.heap.objs.size = some (lob [] 0) := hsb₁.extBut _ _ hDC (Heap.get?_push_of_some _ (hH2 ▸ Heap.get?_push_size _ rfl))
  have fplt : ∀ b ∈ fp, b < s2.heap.objs.size := fun b hb => let ⟨o, e, _⟩ := T.obj 0 s2.heap st2 b hb; Heap.lt_size e
  have okB : (cxBlock X scope cl P2.objs.size s2 H2 fp N').Ok := block_ok I2 (fun b hb => ⟨f2 b hb, fplt b hb⟩) hCle ok.kind ok.cell h1 h2
  have hDL : s2.heap.objs.size ≠ X.env.locals := Nat.ne_of_gt I2.lt
  have hDfs : s2.heap.objs.size ∉ frs X.stack := fun hm => by
    rcases List.mem_cons.mp (I2.stkSub _ hm) with z | z
    · exact hDL z
    · exact I2.nofs (Nat.le_refl _) z
  have hDcell : ∀ x c, cl.lookup x = some c → c ≠ s2.heap.objs.size := fun x c e z => by
    obtain ⟨v, q⟩ := I2.cell x c (h1 x c e)
    exact absurd (Nat.lt_of_lt_of_le q.lt (by rw [z]; exact Nat.le_refl _)) (Nat.lt_irrefl _)
  have hDfp : s2.heap.objs.size ∉ fp := fun hm => Nat.lt_irrefl _ (fplt _ hm)
  -- what stays true of the iterator's objects
  have stat : ∀ {pl : List (Addr × Obj)} {H' : Hp}, (∀ p ∈ pl, p.1 = s2.heap.objs.size) → (∀ b ∈ fp, H' b = none) → ∀ b ∈ fp, FpOk (cxBlock X scope cl P2.objs.size s2 H2 fp N') pl H' b := fun {pl H'} hp hn b hb =>
    ⟨hn b hb, Nat.ne_of_lt (Nat.lt_of_lt_of_le (fplt b hb) hCle), okB.exfs b hb, .inl hb, fun x c e => (f2 b hb).2.2.2.2.1 x c (h1 x c e), fun p hm z => hDfp (by rw [← hp p hm, z]; exact hb)⟩
  have I4 : Inv (cxBlock X scope cl P2.objs.size s2 H2 fp N') [(s2.heap.objs.size, lob [] 0)] (cap.map fun o => o.bind fun j => (σ[j]?).join) H2 { s2 with heap := h₁, toks := s2.toks + ([] : List (Str × Value)).length } := by
    refine ⟨okB, rfl, I2.bare, Un.kept old, ⟨_, hns₁, fun i x v e1 e2 e3 => ?_⟩, fun x c e => ?_, I2.hok.fresh hCle, fun x c e => I2.freeC x c (h1 x c e), fun p hp => ?_, I2.hok.kept old, ?_⟩
    · rw [List.getElem?_map] at e2
      cases ec : cap[i]? with
      | none => rw [ec] at e2; cases e2
      | some o =>
        rw [ec] at e2
        cases o with
        | none => cases e2
        | some j =>
          have e2' : (σ[j]?).join = some v := by simpa using e2
          have ej : σ[j]? = some (some v) := by
            cases q : σ[j]? with
            | none => rw [q] at e2'; cases e2'
            | some z => rw [q] at e2'; have : z = some v := e2'; rw [this]
          obtain ⟨c1, c2, c3, c4⟩ := ok.cap i j x ec e1
          obtain ⟨m, hn, hl⟩ := I2.loc
          obtain ⟨u, ru, lk⟩ := hl j x v c1 ej (.inr (.inl c2))
          refine ⟨u, ru, .inr ⟨.inl c3, ?_⟩⟩
          rcases lk with ⟨k, _⟩ | ⟨_, c, e, z⟩
          · rw [c2] at k; cases k
          · obtain ⟨c', e'⟩ := h2 x c4
            have : c' = c := by
              have := h1 x c' e'
              rw [e] at this
              exact (Option.some.inj this).symm
            subst this
            obtain ⟨ob, eo, ed⟩ := z
            exact ⟨c', e', ob, old _ _ eo, ed⟩
    · obtain ⟨v, ob, eo, ed⟩ := I2.cell x c (h1 x c e)
      exact ⟨v, ob, old _ _ eo, ed⟩
    · have hp' : p = (s2.heap.objs.size, lob [] 0) := by simpa [cxBlock] using hp
      subst hp'
      exact ⟨hacc, I2.hok.fresh (Nat.le_refl _), hDC, hDfs, fun v z => by cases z⟩
    · show (cap.map _).length = N'.length
      rw [List.length_map]; exact ok.len
  have st4 : tn 0 h₁ := T.keep 0 _ _ st2 fun b _ o e => old b o e
  have loop : ∀ s4 : Shared, s4 = { s2 with heap := h₁, toks := s2.toks + ([] : List (Str × Value)).length } →
      codeAny (model X.prog X.w) X.A (.compLoop (.ListComp elt [⟨tg, iter, ifs, 0⟩] scope pos) 0 (.ref it) (.ref s2.heap.objs.size) (compEnvC scope cl P2.objs.size X.env)) (RR (.ref s2.heap.objs.size) P2.objs.size) s4 := by
    rintro s4 rfl
    obtain ⟨hg, ht, he⟩ := hb cl P2.objs.size s2 H2 fp
    refine comp_loop (fun n s' => ∃ i σ' H' acc its k, Inv (cxBlock X scope cl P2.objs.size s2 H2 fp N') [(s2.heap.objs.size, lob its k)] σ' H' s' ∧ tn i s'.heap ∧ (∀ b ∈ fp, H' b = none) ∧ Vals acc its ∧ acc.length ≤ sizeLine ∧ W i n σ' H' acc) ?_ m0
      ⟨0, _, H2, [], [], 0, I4, st4, fun b hb => (f2 b hb).1, .nil, Nat.zero_le _, w0⟩
    rintro n s5 ⟨i, σ5, H5, acc, its, k, I5, st5, fr5, rv, hz, w5⟩
    have pin1 : ∀ {k : Nat} {its : List Value}, ∀ p ∈ ([(s2.heap.objs.size, lob its k)] : List (Addr × Obj)), p.1 = s2.heap.objs.size := fun p hp => by
      have := List.mem_singleton.mp hp
      rw [this]
    rcases turn i n σ5 H5 acc w5 with ⟨stop, qn⟩ | ⟨go, hlt, step⟩
    · refine thn (T.done (cxBlock X scope cl P2.objs.size s2 H2 fp N') rfl rfl rfl hc i _ s5 σ5 H5 _ I5 (stat pin1 fr5) st5 stop) fun r s6 ⟨hr, I6⟩ => ?_
      subst hr
      obtain ⟨m6, hn6, _⟩ := id I6.loc
      obtain ⟨pe, pn, _, _, _⟩ := I6.pin (s2.heap.objs.size, lob its k) (List.mem_append_right _ List.mem_cons_self)
      have fC : H5 P2.objs.size = none := I6.free
      have neD : ∀ b u, H5 b = some u → b ≠ s2.heap.objs.size := fun b u e z => by rw [z, pn] at e; cases e
      have un : Un (frs X.stack) fp H2 (upd H5 s2.heap.objs.size (.lst acc)) s2.heap s6.heap := by
        have B : Un (frs X.stack) fp H2 H5 s2.heap s6.heap := I6.base
        refine ⟨B.keep, B.slot, fun b o e n hx => ?_, B.there, fun b xs e => ?_, fun b o u e => ?_, fun b ps e => ?_⟩
        · rw [upd_ne (Nat.ne_of_lt (Heap.lt_size e))]; exact B.free b o e n hx
        · have z := B.tups b xs e
          rw [upd_ne (neD b _ z)]; exact z
        · have z := B.frzs b o u e
          rw [upd_ne (neD b _ z)]; exact z
        · obtain ⟨more, z⟩ := B.tbls b ps e
          exact ⟨more, by rw [upd_ne (neD b _ z)]; exact z⟩
      have hokD : HOk X.prog X.w X.K (upd H5 s2.heap.objs.size (.lst acc)) s6.heap := fun b u e => by
        by_cases hbD : b = s2.heap.objs.size
        · subst hbD
          rw [upd_same] at e; cases e
          exact ⟨hz, its, k, rv, pe⟩
        · rw [upd_ne hbD] at e
          exact (I6.hok b u e).stay (fun c v hcc q => q) (fun c q => by rw [upd_ne (neD c _ q)]; exact q) fun c xs q => by rw [upd_ne (neD c _ q)]; exact q
      have I7 : Inv X pins σ (upd H5 s2.heap.objs.size (.lst acc)) s6 := I2.call' (s' := s6) (ch := fp) I6.os un hokD I6.bare fun b hb =>
        ⟨(f2 b hb).2.2.2.1, (f2 b hb).2.1, (f2 b hb).2.2.2.2.1, (f2 b hb).2.2.2.2.2⟩
      refine fin _ _ s6 _ ⟨m6, hn6⟩ I7 (qn _ pn) ⟨by rw [upd_ne (Ne.symm hDC)]; exact fC, Nat.ne_of_gt (Nat.lt_of_lt_of_le I2.lt hCle), Nat.le_trans I2.sz hCle, fun x c e z => ?_, fun p hp z => ?_⟩
      · obtain ⟨v, q⟩ := I2.cell x c e
        exact absurd (Nat.lt_of_lt_of_le q.lt (by rw [z]; exact hCle)) (Nat.lt_irrefl _)
      · exact absurd (Nat.lt_of_lt_of_le (Heap.lt_size (I2.pin p hp).1) (by rw [z]; exact hCle)) (Nat.lt_irrefl _)
    · refine thn (T.item (cxBlock X scope cl P2.objs.size s2 H2 fp N') rfl rfl rfl hc i _ s5 σ5 H5 _ I5 (stat pin1 fr5) st5 go) fun r s6 ⟨u, hr, q6⟩ => ?_
      subst hr
      refine thn q6 fun _ s7 ⟨x, H7, I7, r7, y7, st7, fr7⟩ => ?_
      have I7' := I7.pinned (stat pin1 fr7) (T.obj _ _ st7)
      refine thn (hg _ s7 σ5 H7 x u _ I7' r7 (step x H7 y7)) fun _ s8 ⟨σ8, H8, I8, q8⟩ => ?_
      refine thn (ht _ s8 σ8 H8 _ I8 q8) fun b s9 ⟨H9, I9, q9⟩ => ?_
      have again : ∀ {σa : St} {Ha : Hp} {sa : Shared}, Inv (cxBlock X scope cl P2.objs.size s2 H2 fp N') ([(s2.heap.objs.size, lob its k)] ++ pinsAt fp s7.heap) σa Ha sa → tn (i + 1) sa.heap ∧ ∀ b ∈ fp, Ha b = none := fun {σa Ha sa} Ia =>
        ⟨T.keep _ _ _ st7 fun b hb o e => (Ia.pin (b, o) (List.mem_append_right _ (List.mem_append_right _ (mem_pinsAt hb e)))).1, fun b hb => by
          obtain ⟨o, e, d⟩ := T.obj _ _ st7 b hb
          exact (Ia.pin (b, o) (List.mem_append_right _ (List.mem_append_right _ (mem_pinsAt hb e)))).2.1⟩
      cases b with
      | false =>
        obtain ⟨m', hm, w9⟩ := q9
        obtain ⟨a1, a2⟩ := again I9
        exact ⟨m', hm, i + 1, σ8, H9, acc, its, k, I9.unpinned, a1, a2, rv, hz, w9⟩
      | true =>
        refine thn (he _ s9 σ8 H9 _ I9 q9) fun z s10 ⟨y, H10, I10, ry, m', hm, w10⟩ => ?_
        obtain ⟨pe, pn, pL, pf, pd⟩ := I10.pin (s2.heap.objs.size, lob its k) (List.mem_append_right _ (List.mem_append_left _ List.mem_cons_self))
        have hl := rv.length
        refine call_meets F.slot_list_append ⟨_, pe, rfl⟩ F.entry_list_append (F.args_list_append_2 _ _) (PySem.list_append s2.heap.objs.size its.toArray k z (by rw [List.size_toArray]; omega)) ⟨pe, ?_⟩
        obtain ⟨k', q⟩ : ∃ k', (s10.heap.update s2.heap.objs.size (Obj.mapSeq fun a => a.push z)).get? s2.heap.objs.size = some (lob (its ++ [z]) k') := ⟨_, by
          have q := PySem.IsL.update pe fun a => a.push z
          simpa using q⟩
        obtain ⟨a1, a2⟩ := again I10
        have I11 : Inv (cxBlock X scope cl P2.objs.size s2 H2 fp N') [] σ8 H10 { s10 with heap := s10.heap.update s2.heap.objs.size (Obj.mapSeq fun a => a.push z), toks := s10.toks } :=
          (I10.pins_of (pins' := []) fun p hp => nomatch hp).turned (fun b o hb e => (Heap.get?_update_other s10.heap _ (Ne.symm hb)).trans e) pn hDC (.inr (Nat.le_refl _)) hDcell fun p hp => by
            have : p ∈ ([] : List (Addr × Obj)) := by simpa [cxBlock] using hp
            exact nomatch this
        refine ⟨m', hm, i + 1, σ8, H10, acc ++ [y], its ++ [z], k', I11.pins_of (pins' := [(s2.heap.objs.size, lob (its ++ [z]) k')]) fun p hp => ?_, ?_, a2, rv.append (.cons ry .nil), ?_, w10⟩
        · have hp' := List.mem_singleton.mp hp
          subst hp'
          exact ⟨q, pn, hDC, hDfs, fun v z => by cases z⟩
        · exact T.keep _ _ _ a1 fun b hb o e => (Heap.get?_update_other s10.heap _ (fun z => hDfp (by rw [z]; exact hb))).trans e
        · rw [List.length_append, List.length_singleton]; omega
  exact codeAny_compStart_list (loop _ rfl) (T.self _ 0 _ _ _ st4 (loop _ rfl))
/-- [elt for tg in iter if ..] -/
theorem pe_comp (hc : X.calm = true) (hi : PI X tg iter wi) (ok : CompOk X scope cap N')
    (hb : ∀ cl C s H fp, PG (cxBlock X scope cl C s H fp N') tg g ∧ PTs (cxBlock X scope cl C s H fp N') ifs tc ∧ PE (cxBlock X scope cl C s H fp N') elt te)
    (hs : ∀ x, foldedSetIterable iter X.env x = pure x := by intro _; rfl) : PE X (.ListComp elt [⟨tg, iter, ifs, 0⟩] scope pos) (tComp wi g tc te cap) := by
  intro pins s σ H Q I h
  obtain ⟨cl, hcl, h1, h2⟩ := closure_of (scope := scope) (env := X.env) fun x hx hk => I.ok.has x.1 (.inl (ok.free x hx hk))
  rw [eval_ListComp]
  refine wpAny_comprehension_free (use := none) rfl hs hcl ok.kind ok.names (thn (hi pins s σ H _ I h) fun v s1 q1 => thn q1 fun itv s2 q2 => ?_)
  obtain ⟨it, fp, tn, J, H2, e, I2, T, st2, f2, W, w0, turn⟩ := q2
  subst e
  refine block_run (Q := Q) (RR := fun acc C => compPost (model X.prog X.w) X.A X.xe none (EP X pins σ Q) acc C) hc ok h1 h2 hb I2 T st2 f2 W w0 turn ?_
  intro D C s' H' hm I' hq ow
  obtain ⟨m, hn⟩ := hm
  exact ⟨m, hn, fun h' hs' => ⟨.ref D, H', I'.letGo ow hs', rfl, hq⟩⟩
/-- name = [elt for tg in iter if ..], the list stored within the block -/
theorem ps_setComp {i : Nat} {y : Str} {py spos : Pos} (hN : X.N.Nodup) (hi' : X.N[i]? = some y) (hy : X.env.scope.names.lookup y = some .local) (hsw : swapsWith (.ListComp elt [⟨tg, iter, ifs, 0⟩] scope pos) (some (.Name y py)) spos.line X.env = pure true)
    (hc : X.calm = true) (hi : PI X tg iter wi) (ok : CompOk X scope cap N')
    (hb : ∀ cl C s H fp, PG (cxBlock X scope cl C s H fp N') tg g ∧ PTs (cxBlock X scope cl C s H fp N') ifs tc ∧ PE (cxBlock X scope cl C s H fp N') elt te)
    (hs : ∀ x, foldedSetIterable iter X.env x = pure x := by intro _; rfl) : PS X (.Assign [.Name y py] (.ListComp elt [⟨tg, iter, ifs, 0⟩] scope pos) spos) (tAsg (tComp wi g tc te cap) (gName i)) := by
  intro pins s σ H D I h
  obtain ⟨cl, hcl, h1, h2⟩ := closure_of (scope := scope) (env := X.env) fun x hx hk => I.ok.has x.1 (.inl (ok.free x hx hk))
  rw [exec_Assign_Name_used _ _ _ _ hsw]
  refine wpAny_bind (wpAny_standAt (wpAny_bind ?_))
  show wpAny _ X.A (do let _ ← comprehension (.ListComp elt [⟨tg, iter, ifs, 0⟩] scope pos) scope X.env _ (newList []) false (eval iter X.env) (some (assign (.Name y py) X.env))) _ _ s
  refine wpAny_bind (wpAny_mono (wpAny_comprehension_free (use := some (assign (.Name y py) X.env)) (Q := fun _ s' => SP X pins D .next s') rfl hs hcl ok.kind ok.names (thn (hi pins s σ H _ I h) fun v s1 q1 => thn q1 fun itv s2 q2 => ?_)) (fun _ s' hq => wpAny_pure (wpAny_pure hq)) fun _ _ e => e)
  obtain ⟨it, fp, tn, J, H2, e, I2, T, st2, f2, W, w0, turn⟩ := q2
  subst e
  refine block_run (Q := fun x H1 => D.nx (σ.set i (some x)) H1) (RR := fun acc C => compPost (model X.prog X.w) X.A X.xe (some (assign (.Name y py) X.env)) (fun _ s' => SP X pins D .next s') acc C) hc ok h1 h2 hb I2 T st2 f2 W w0 turn ?_
  intro E C s' H' hm I' hq ow
  obtain ⟨m, hn⟩ := hm
  show wpAny _ X.A (assign (.Name y py) X.env (.ref E)) _ _ _
  refine wpAny_assign_Name (store_ok2 I' hN hi' (.inl hy) (v := .ref E) rfl (fun s'' I'' ⟨a, hs'', ha⟩ => ?_) (.inr hy))
  have hne : C ≠ a := by
    rcases ha with z | z
    · rw [z]; exact ow.loc
    · exact Ne.symm (ow.cell y a z)
  exact ⟨m, hn.sameBut hs'' hne, fun h' hs' => ⟨_, H', I''.letGo ow hs', hq⟩⟩
end
end L3

set_option Elab.async false
set_option linter.all false
set_option maxRecDepth 100000
namespace L3
open PySem PySem.Spec L2
open PyProof.Rows hiding St

/-! ### what is walked, from above: the items, as long as valid holds -/
abbrev TI2 := St2 → WH → (List W → (WH → Prop) → WH → Prop) → Prop
/-- the iterator J yields ws from the heap H1 on -/
structure Yields (K : PySem.W.Frag) (J : It) (ws : List W) (valid : WH → Prop) (H1 : Hp) : Prop where
  go : ∀ i H G w, TX H1 H → Sim K G H → valid G → ws[i]? = some w → J.go i H ∧ ∀ x H', J.yld i H x H' → TX H H' ∧ Sim K G H' ∧ Rep K H' w x
  stop : ∀ H G, TX H1 H → Sim K G H → valid G → J.stop ws.length H
def lowI (K : PySem.W.Frag) (t : TI2) : TI := fun σ H R => ∃ τ G R2, SimS K H τ σ ∧ Sim K G H ∧ t τ G R2 ∧ ∀ J H1 ws valid G1, TX H H1 → Sim K G1 H1 → Yields K J ws valid H1 → R2 ws valid G1 → R J H1
def PI2 (X : Cx) (tg iter : Expr) (t : TI2) : Prop := PI X tg iter (lowI X.K t)
theorem PI.imp {X : Cx} {tg iter : Expr} {t t' : TI} (h : PI X tg iter t) (le : ∀ σ H R, t' σ H R → t σ H R) : PI X tg iter t' := fun pins s σ H R I q => h pins s σ H R I (le σ H R q)
section
variable {X : Cx} {tg : Expr} {pos : Pos}
def iSeq2 (ta : TE2) : TI2 := fun τ G R => ta τ G fun w G1 => match w with
  | .scr ws => R ws (fun _ => True) G1
  | .tup ws => R ws (fun _ => True) G1
  | .ref a => ∃ ws, G1 a = some (.lst ws) ∧ R ws (fun G => G a = some (.lst ws)) G1
  | _ => False
theorem i_seq {l : Expr} {ta : TE2} (hl : PE2 X l ta) : PI2 X tg l (iSeq2 ta) :=
  PI.imp (pi_seq hl) fun σ H R ⟨τ, G, R2, hs, hg, ht, c⟩ => ⟨τ, G, _, hs, hg, ht, fun v H1 w G1 t1 s1 r1 h1 => by
    cases w <;> first | exact False.elim h1 | skip
    case scr ws =>
      cases r1 with
      | @scr a vs _ t r =>
        refine ⟨_, rfl, .inl ⟨⟨_, t.sq⟩, c _ H1 ws _ G1 t1 s1 ⟨fun i H' G' w' tx sg _ e => ?_, fun H' G' tx sg _ => ⟨_, (t.mono tx).sq, by rw [← r.length]; exact Nat.le_refl _⟩⟩ h1⟩⟩
        obtain ⟨v, e', rv⟩ := r.get e
        exact ⟨⟨_, v, (t.mono tx).sq, e'⟩, fun x H'' ⟨eq, y⟩ => by subst eq; have := y _ (t.mono tx).sq; rw [e'] at this; cases this; exact ⟨.refl _, sg, rv.mono tx⟩⟩
    case tup ws =>
      cases r1 with
      | @tup a vs _ t r =>
        refine ⟨_, rfl, .inr ⟨⟨_, t.sq⟩, c _ H1 ws _ G1 t1 s1 ⟨fun i H' G' w' tx sg _ e => ?_, fun H' G' tx sg _ => ⟨_, (t.mono tx.tup).sq, by rw [← r.length]; exact Nat.le_refl _⟩⟩ h1⟩⟩
        obtain ⟨v, e', rv⟩ := r.get e
        exact ⟨⟨_, v, (t.mono tx.tup).sq, e'⟩, fun x H'' ⟨eq, y⟩ => by subst eq; have := y _ (t.mono tx.tup).sq; rw [e'] at this; cases this; exact ⟨.refl _, sg, rv.mono tx⟩⟩
    case ref a =>
      cases r1
      obtain ⟨ws, e1, h1⟩ := h1
      obtain ⟨vs0, hv0, _⟩ := s1 _ _ e1
      refine ⟨_, rfl, .inl ⟨⟨_, .of hv0⟩, c _ H1 ws _ G1 t1 s1 ⟨fun i H' G' w' tx sg va e => ?_, fun H' G' tx sg va => ?_⟩ h1⟩⟩
      · obtain ⟨vs, hv, r⟩ := sg _ _ va
        obtain ⟨v, e', rv⟩ := r.get e
        exact ⟨⟨_, v, .of hv, e'⟩, fun x H'' ⟨eq, y⟩ => by subst eq; have := y _ (.of hv); rw [e'] at this; cases this; exact ⟨.refl _, sg, rv⟩⟩
      · obtain ⟨vs, hv, r⟩ := sg _ _ va
        exact ⟨_, .of hv, by rw [← r.length]; exact Nat.le_refl _⟩⟩
theorem yields_range {K : PySem.W.Frag} {lo : Int} {n : Nat} {H1 : Hp} : Yields K (Itr lo n) (rangeW lo n) (fun _ => True) H1 :=
  ⟨fun i H' G' w' tx sg _ e => by
    obtain ⟨hi, rfl⟩ := rangeW_get e
    exact ⟨hi, fun x H'' ⟨eq, y⟩ => by subst eq y; exact ⟨.refl _, sg, .int _⟩⟩, fun H' G' tx sg _ => by rw [rangeW_len]; exact Nat.le_refl _⟩
def iR1 (t : TA2) : TI2 := fun τ G R => t τ G fun ws G1 => match ws with
  | [.int j] => -(2 ^ 62) ≤ j ∧ j < 2 ^ 62 ∧ R (rangeW 0 j.toNat) (fun _ => True) G1
  | _ => False
theorem i_range1 {a : Expr} {t : TA2} {p : Pos} (hgl : Gl X "range") (hm : X.mg "range" = none) (ha : PA2 X [a] t) (hs : starEach [a] X.env = [(false, eval a X.env)] := by rfl) : PI2 X tg (.Call (.Name "range" p) [a] [] pos) (iR1 t) :=
  PI.imp (pi_range1 hgl hm ha hs) fun σ H R ⟨τ, G, R2, hs, hg, ht, c⟩ => ⟨τ, G, _, hs, hg, ht, fun vs H1 ws G1 t1 s1 r1 h1 => by
    split at h1
    · cases r1 with | cons r1 r2 => cases r2; cases r1; exact ⟨_, rfl, h1.1, h1.2.1, c _ H1 _ _ G1 t1 s1 yields_range h1.2.2⟩
    · exact False.elim h1⟩
/-- for over whatever is walked -/
def uForI (s : TI2) (g : TG2) (tb : TS2) : TS2 := fun D τ G => s τ G fun ws valid G1 => uLoop ws valid g tb D τ G1
theorem s_forI {iter : Expr} {body : List Stmt} {t : TI2} {g : TG2} {tb : TS2} (hp : PassesOwn (model X.prog X.w) X.A X.env X.xe) (hc : X.calm = true) (hi : PI2 X tg iter t) (hg : PG2 X tg g) (hb : PSs2 X body tb)
    (hs : ∀ x, foldedSetIterable iter X.env x = pure x := by intro _; rfl) : PS2 X (.For tg iter body [] pos) (uForI t g tb) :=
  PS.imp (ps_for hp hc hi hg hb hs) fun D σ H ⟨τ, G, D2, hs, hg, ht, le⟩ => ⟨τ, G, _, hs, hg, ht, fun J H1 ws valid G1 t1 s1 y h1 => loop_low (hs.mono t1) s1 (le.mono t1) y.go y.stop h1⟩
end

/-! ### comprehensions -/
def compGo (valid : WH → Prop) (g : TG2) (tc : TT2) (te : TE2) (Q : List W → WH → Prop) : List W → St2 → WH → List W → Prop
  | [], _, G, acc => valid G ∧ Q acc G
  | w :: ws, τ, G, acc => valid G ∧ acc.length < sizeLine ∧ g w τ G fun τ2 G2 => tc τ2 G2 fun b G3 => if b = true then te τ2 G3 fun y G4 => ∃ G0, (∀ b u, G0 b = some u → G4 b = some u) ∧ compGo valid g tc te Q ws τ2 G0 (acc ++ [y]) else compGo valid g tc te Q ws τ2 G3 acc
def capt (cap : List (Option Nat)) (τ : St2) : St2 := cap.map fun o => o.bind fun j => (τ[j]?).join
def uComp (s : TI2) (g : TG2) (tc : TT2) (te : TE2) (cap : List (Option Nat)) : TE2 := fun τ G Q => s τ G fun ws valid G1 => compGo valid g tc te (fun acc G' => ∀ p, G' p = none → Q (.ref p) (gup G' p (.lst acc))) ws (capt cap τ) G1 []
def uTrue : TT2 := fun _ G Q => Q true G
theorem SimS.capt {K : PySem.W.Frag} {H : Hp} {τ : St2} {σ : St} (s : SimS K H τ σ) (cap : List (Option Nat)) : SimS K H (capt cap τ) (cap.map fun o => o.bind fun j => (σ[j]?).join) := by
  refine ⟨by simp [L3.capt], fun i w e => ?_⟩
  unfold L3.capt at e
  rw [List.getElem?_map] at e ⊢
  cases q : cap[i]? with
  | none => rw [q] at e; cases e
  | some o =>
    rw [q] at e
    cases o with
    | none => cases e
    | some j =>
      have e' : (τ[j]?).join = some w := by simpa using e
      have ej : τ[j]? = some (some w) := by
        cases z : τ[j]? with
        | none => rw [z] at e'; cases e'
        | some y => rw [z] at e'; have : y = some w := e'; rw [this]
      obtain ⟨v, hv, rv⟩ := s.at' j w ej
      exact ⟨v, by simp [hv], rv⟩
theorem low_comp {K : PySem.W.Frag} {s : TI2} {g : TG2} {tc : TT2} {te : TE2} {cap : List (Option Nat)} (σ : St) (H : Hp) (Q : VK) (h : low K (uComp s g tc te cap) σ H Q) : tComp (lowI K s) (lowG K g) (lowT K tc) (low K te) cap σ H Q := by
  obtain ⟨τ, G, Q2, hs, hg, ht, hc⟩ := h
  refine ⟨τ, G, _, hs, hg, ht, fun J H1 ws valid G1 t1 s1 y h1 => ?_⟩
  refine ⟨fun i m σ' H' acc => m = ws.length - i ∧ i ≤ ws.length ∧ ∃ τ' G' accw, SimS K H' τ' σ' ∧ Sim K G' H' ∧ Reps K H' accw acc ∧ TX H1 H' ∧ compGo valid g tc te (fun acc G' => ∀ p, G' p = none → Q2 (.ref p) (gup G' p (.lst acc))) (ws.drop i) τ' G' accw,
    ⟨ws.length, rfl, Nat.zero_le _, capt cap τ, G1, [], (hs.mono t1).capt cap, s1, .nil, .refl _, h1⟩, ?_⟩
  rintro i m σ' H' acc ⟨rfl, hi, τ', G', accw, s2, g2, ra, tx, q⟩
  by_cases hlt : i < ws.length
  · have ed : ws.drop i = ws[i] :: ws.drop (i + 1) := List.drop_eq_getElem_cons hlt
    rw [ed] at q
    obtain ⟨va, hz, q⟩ := q
    obtain ⟨go, yl⟩ := y.go i H' G' ws[i] tx g2 va (by simp [hlt])
    refine .inr ⟨go, by rw [← ra.length]; exact hz, fun x H2 hy => ?_⟩
    obtain ⟨t3, g3, r3⟩ := yl x H2 hy
    refine ⟨ws[i], τ', G', _, r3, s2.mono t3, g3, q, fun σ3 H3 τ3 G3 t4 s4 g4 q4 => ?_⟩
    refine ⟨τ3, G3, _, s4, g4, q4, fun b H4 G4 t5 g5 q5 => ?_⟩
    have t35 := (t3.trans t4).trans t5
    cases b with
    | true =>
      refine ⟨τ3, G4, _, s4.mono t5, g5, q5, fun yv H5 yw G5 t6 g6 r6 ⟨G6, le6, q6⟩ => ?_⟩
      have t36 := t35.trans t6
      exact ⟨ws.length - (i + 1), by omega, rfl, hlt, τ3, G6, accw ++ [yw], s4.mono (t5.trans t6), g6.less le6, (ra.mono t36).append (.cons r6 .nil), tx.trans t36, q6⟩
    | false => exact ⟨ws.length - (i + 1), by omega, rfl, hlt, τ3, G4, accw, s4.mono t5, g5, ra.mono t35, tx.trans t35, q5⟩
  · have e : i = ws.length := by omega
    subst e
    rw [List.drop_length] at q
    obtain ⟨va, q⟩ := q
    refine .inl ⟨y.stop H' G' tx g2 va, fun p hp => ?_⟩
    exact hc _ _ _ _ ((t1.trans tx).trans (.fresh hp)) (g2.laid hp (.l upd_same (ra.mono (.fresh hp)))) (.ref p) (q p (g2.no hp))
theorem pts2_nil {X : Cx} : PTs X [] (lowT X.K uTrue) := fun pins s σ H Q I ⟨τ, G, Q2, hs, hg, ht, hc⟩ => pts_nil pins s σ H Q I (hc true H G (.refl H) hg ht)
theorem pts2_one {X : Cx} {c : Expr} {t : TT2} (h : PT2 X c t) : PTs X [c] (lowT X.K t) := pts_one h
section
variable {X : Cx} {elt tg iter : Expr} {ifs : List Expr} {scope : Scope} {pos : Pos} {s : TI2} {g : TG2} {tc : TT2} {te : TE2} {cap : List (Option Nat)} {N' : List Str}
theorem e_comp (hc : X.calm = true) (hi : PI2 X tg iter s) (ok : CompOk X scope cap N')
    (hb : ∀ cl C s H fp, PG2 (cxBlock X scope cl C s H fp N') tg g ∧ PTs (cxBlock X scope cl C s H fp N') ifs (lowT X.K tc) ∧ PE2 (cxBlock X scope cl C s H fp N') elt te)
    (hs : ∀ x, foldedSetIterable iter X.env x = pure x := by intro _; rfl) : PE2 X (.ListComp elt [⟨tg, iter, ifs, 0⟩] scope pos) (uComp s g tc te cap) := PE.imp (pe_comp (g := lowG X.K g) (tc := lowT X.K tc) (te := low X.K te) hc hi ok hb hs) low_comp
theorem s_setComp {i : Nat} {y : Str} {py spos : Pos} (hN : X.N.Nodup) (hi' : X.N[i]? = some y) (hy : X.env.scope.names.lookup y = some .local) (hc : X.calm = true) (hi : PI2 X tg iter s) (ok : CompOk X scope cap N')
    (hb : ∀ cl C s H fp, PG2 (cxBlock X scope cl C s H fp N') tg g ∧ PTs (cxBlock X scope cl C s H fp N') ifs (lowT X.K tc) ∧ PE2 (cxBlock X scope cl C s H fp N') elt te)
    (hsw : swapsWith (.ListComp elt [⟨tg, iter, ifs, 0⟩] scope pos) (some (.Name y py)) spos.line X.env = pure true := by rfl)
    (hs : ∀ x, foldedSetIterable iter X.env x = pure x := by intro _; rfl) : PS2 X (.Assign [.Name y py] (.ListComp elt [⟨tg, iter, ifs, 0⟩] scope pos) spos) (uAsg (uComp s g tc te cap) (uName i)) :=
  PS.imp (ps_setComp (g := lowG X.K g) (tc := lowT X.K tc) (te := low X.K te) hN hi' hy hsw hc hi ok hb hs) fun D σ H ⟨τ, G, D2, hs, hg, ht, le⟩ => low_comp σ H _ ⟨τ, G, _, hs, hg, ht, fun v H1 w G1 t1 s1 r1 h1 => le.nx _ H1 _ G1 t1 ((hs.mono t1).set r1 i) s1 h1⟩
end
/-- a comprehension whose parts change nothing -/
theorem compGo_pure {valid : WH → Prop} {g : TG2} {tc : TT2} {te : TE2} {Q : List W → WH → Prop} {f : W → W} {p : W → Bool} {T : St2 → Prop} {G : WH} (va : valid G) :
    ∀ (ws : List W) (τ : St2) (acc : List W), T τ → (∀ w ∈ ws, ∀ τ, T τ → ∀ (C1 : W → St2 → WH → Prop) (C2 : St2 → WH → Prop), (p w = true → ∀ τ', T τ' → C1 (f w) τ' G) → (p w = false → ∀ τ', T τ' → C2 τ' G) →
        g w τ G fun τ2 G2 => tc τ2 G2 fun b G3 => if b = true then te τ2 G3 fun y G4 => C1 y τ2 G4 else C2 τ2 G3) →
      acc.length + ws.length ≤ sizeLine → Q (acc ++ (ws.filter p).map f) G → compGo valid g tc te Q ws τ G acc
  | [], τ, acc, _, _, _, q => ⟨va, by simpa using q⟩
  | w :: ws, τ, acc, hT, st, hl, q => by
    refine ⟨va, by simp at hl; omega, ?_⟩
    refine st w List.mem_cons_self τ hT (fun y τ2 G4 => ∃ G0, (∀ b u, G0 b = some u → G4 b = some u) ∧ compGo valid g tc te Q ws τ2 G0 (acc ++ [y])) (fun τ2 G3 => compGo valid g tc te Q ws τ2 G3 acc) (fun hp τ' hT' => ?_) fun hp τ' hT' => ?_
    · refine ⟨G, fun _ _ e => e, compGo_pure va ws τ' _ hT' (fun w' hw => st w' (List.mem_cons_of_mem _ hw)) (by simp at hl ⊢; omega) ?_⟩
      rw [List.filter_cons, if_pos hp] at q
      simpa using q
    · refine compGo_pure va ws τ' _ hT' (fun w' hw => st w' (List.mem_cons_of_mem _ hw)) (by simp at hl; omega) ?_
      rw [List.filter_cons, if_neg (by rw [hp]; exact Bool.false_ne_true)] at q
      exact q
/-- by an invariant over what was taken: the heap may change -/
theorem compGo_inv {valid : WH → Prop} {g : TG2} {tc : TT2} {te : TE2} {Q : List W → WH → Prop} (P : Nat → List W → St2 → WH → Prop) :
    ∀ (ws : List W) (k : Nat) (τ : St2) (G : WH) (acc : List W), P k acc τ G → (∀ i acc τ G, k ≤ i → i ≤ k + ws.length → P i acc τ G → valid G) → (∀ i acc τ G, k ≤ i → i < k + ws.length → P i acc τ G → acc.length < sizeLine) →
      (∀ i w acc τ G, ws[i]? = some w → P (k + i) acc τ G → ∀ (C1 : W → St2 → WH → Prop) (C2 : St2 → WH → Prop), (∀ y τ' G' G0, (∀ b u, G0 b = some u → G' b = some u) → P (k + i + 1) (acc ++ [y]) τ' G0 → C1 y τ' G') → (∀ τ' G', P (k + i + 1) acc τ' G' → C2 τ' G') →
        g w τ G fun τ2 G2 => tc τ2 G2 fun b G3 => if b = true then te τ2 G3 fun y G4 => C1 y τ2 G4 else C2 τ2 G3) →
      (∀ acc τ G, P (k + ws.length) acc τ G → Q acc G) → compGo valid g tc te Q ws τ G acc
  | [], k, τ, G, acc, p, va, _, _, en => ⟨va k acc τ G (Nat.le_refl _) (Nat.le_add_right _ _) p, en acc τ G p⟩
  | w :: ws, k, τ, G, acc, p, va, sz, st, en => by
    refine ⟨va k acc τ G (Nat.le_refl _) (Nat.le_add_right _ _) p, sz k acc τ G (Nat.le_refl _) (by simp) p, ?_⟩
    have hva : ∀ i acc τ G, k + 1 ≤ i → i ≤ k + 1 + ws.length → P i acc τ G → valid G := fun i acc τ G h1 h2 => va i acc τ G (by omega) (by simp; omega)
    have hsz : ∀ i acc τ G, k + 1 ≤ i → i < k + 1 + ws.length → P i acc τ G → acc.length < sizeLine := fun i acc τ G h1 h2 => sz i acc τ G (by omega) (by simp; omega)
    have hst : ∀ i w acc τ G, ws[i]? = some w → P (k + 1 + i) acc τ G → ∀ (C1 : W → St2 → WH → Prop) (C2 : St2 → WH → Prop), (∀ y τ' G' G0, (∀ b u, G0 b = some u → G' b = some u) → P (k + 1 + i + 1) (acc ++ [y]) τ' G0 → C1 y τ' G') → (∀ τ' G', P (k + 1 + i + 1) acc τ' G' → C2 τ' G') →
        g w τ G fun τ2 G2 => tc τ2 G2 fun b G3 => if b = true then te τ2 G3 fun y G4 => C1 y τ2 G4 else C2 τ2 G3 := fun i w acc τ G h p C1 C2 h1 h2 => by
      refine st (i + 1) w acc τ G (by simpa using h) (by rw [show k + (i + 1) = k + 1 + i by omega]; exact p) C1 C2 (fun y τ' G' G0 le q => h1 y τ' G' G0 le ?_) fun τ' G' q => h2 τ' G' ?_
      · rw [show k + 1 + i + 1 = k + (i + 1) + 1 by omega]; exact q
      · rw [show k + 1 + i + 1 = k + (i + 1) + 1 by omega]; exact q
    have hen : ∀ acc τ G, P (k + 1 + ws.length) acc τ G → Q acc G := fun acc τ G q => en acc τ G (by rw [show k + (w :: ws).length = k + 1 + ws.length by simp; omega]; exact q)
    refine st 0 w acc τ G rfl p (fun y τ2 G4 => ∃ G0, (∀ b u, G0 b = some u → G4 b = some u) ∧ compGo valid g tc te Q ws τ2 G0 (acc ++ [y])) (fun τ2 G3 => compGo valid g tc te Q ws τ2 G3 acc) (fun y τ' G' G0 le q => ⟨G0, le, ?_⟩) fun τ' G' q => ?_
    · exact compGo_inv P ws (k + 1) τ' G0 _ q hva hsz hst hen
    · exact compGo_inv P ws (k + 1) τ' G' _ q hva hsz hst hen
end L3

set_option Elab.async false
set_option linter.all false
set_option maxRecDepth 100000
namespace L3
open PySem PySem.Spec L2
open PyProof.Rows hiding St

theorem Reps.un1 {K : PySem.W.Frag} {H : Hp} {w : W} {vs : List V} (h : Reps K H [w] vs) : ∃ v, vs = [v] ∧ Rep K H w v := by
  cases h with
  | cons a b => cases b; exact ⟨_, rfl, a⟩
/-! ### built-in functions and types -/
abbrev C2 := List W → WH → VK2 → Prop
def lowC (K : PySem.W.Frag) (r : C2) : List V → Hp → VK → Prop := fun xs H Q => ∃ ws G Q2, Sim K G H ∧ Reps K H ws xs ∧ r ws G Q2 ∧ Cont K H Q2 Q
def uBlt (r : C2) (t : TA2) : TE2 := fun τ G Q => t τ G fun ws G1 => r ws G1 Q
theorem low_blt {K : PySem.W.Frag} {r : C2} {t : TA2} (σ : St) (H : Hp) (Q : VK) (h : low K (uBlt r t) σ H Q) : tCB (lowC K r) (lowA K t) σ H Q := by
  obtain ⟨τ, G, Q2, hs, hg, ht, hc⟩ := h
  exact ⟨τ, G, _, hs, hg, ht, fun vs H1 ws G1 t1 s1 r1 h1 => ⟨ws, G1, Q2, s1, r1, h1, hc.mono t1⟩⟩
theorem CallR.imp {X : Cx} {f : Value} {r r' : List V → Hp → VK → Prop} (h : CallR X f r) (le : ∀ xs H Q, r' xs H Q → r xs H Q) : CallR X f r' := fun pins s σ H xs us Q I rv q => h pins s σ H xs us Q I rv (le xs H Q q)
section
variable {X : Cx} {x : Str} {p pos : Pos} {e : Expr} {es : List Expr} {t : TA2} {id T : String} {r : C2}
theorem e_blt (hc : CallR X (.builtin id) (lowC X.K r)) (hv : bootBuiltins x = some (.builtin id)) (hg : Gl X x) (hm : X.mg x = none) (ha : PA2 X (e :: es) t) (hn : x ≠ "__name__" := by decide) (hdb : (x == ("__debug__" : Str)) = false := by decide)
    (he : starEach (e :: es) X.env = (false, eval e X.env) :: starEach es X.env := by rfl) (hpl : (backTo pos (starEach es X.env)).any (·.1) = false := by rfl) : PE2 X (.Call (.Name x p) (e :: es) [] pos) (uBlt r t) := PE.imp (pe_callB hc hg hm hv ha hn hdb he hpl) low_blt
theorem e_bltT (hc : CallR X (.type T) (lowC X.K r)) (hv : bootBuiltins x = some (.type T)) (hg : Gl X x) (hm : X.mg x = none) (ha : PA2 X (e :: es) t) (hn : x ≠ "__name__" := by decide) (hdb : (x == ("__debug__" : Str)) = false := by decide)
    (he : starEach (e :: es) X.env = (false, eval e X.env) :: starEach es X.env := by rfl) (hpl : (backTo pos (starEach es X.env)).any (·.1) = false := by rfl) : PE2 X (.Call (.Name x p) (e :: es) [] pos) (uBlt r t) := PE.imp (pe_callTy hc hg hm hv ha hn hdb he hpl) low_blt
end
/-! ### len -/
def lenW (G : WH) : W → Option Nat
  | .tup ws => some ws.length
  | .scr ws => some ws.length
  | .str x => if x.length ≤ sizeLine then some x.length else none
  | .ref a => match G a with
    | some (.lst ws) => some ws.length
    | some (.dct false kvs) => some kvs.length
    | _ => none
  | _ => none
def b_len : C2 := fun ws G Q => match ws with
  | [w] => ∃ n : Nat, lenW G w = some n ∧ Q (.int n) G
  | _ => False
section
variable {X : Cx}
theorem c_len : CallR X (.builtin "len") (lowC X.K b_len) :=
  CallR.imp (call_len_seq.or (call_lenD.or call_len_str)) fun xs H Q ⟨ws, G, Q2, S, r, q, c⟩ => by
    unfold b_len at q
    split at q
    · rename_i w
      obtain ⟨n, e, q⟩ := q
      obtain ⟨v0, e0, r0⟩ := r.un1
      subst e0
      clear r
      revert r0
      intro r
      have fin : Q (.int n) H := c _ H _ G (.refl H) S (.int _) q
      unfold lenW at e
      cases w <;> first | (cases e; done) | skip
      case tup ws => cases r with | tup t r => cases e; refine .inl ⟨_, _, rfl, .inr t.sq, ?_⟩; rw [← r.length]; exact fin
      case scr ws => cases r with | scr t r => cases e; refine .inl ⟨_, _, rfl, .inl t.sq, ?_⟩; rw [← r.length]; exact fin
      case str x =>
        cases r
        dsimp only at e
        split at e
        · cases e; exact .inr (.inr ⟨_, rfl, by assumption, fin⟩)
        · cases e
      case ref a =>
        cases r
        dsimp only at e
        cases g : G a with
        | none => rw [g] at e; cases e
        | some o =>
          rw [g] at e
          cases o with
          | lst ws =>
            cases e
            obtain ⟨vs, hv, rv⟩ := S _ _ g
            refine .inl ⟨_, _, rfl, .inl (.of hv), ?_⟩
            rw [← rv.length]; exact fin
          | dct t kvs =>
            cases t with
            | false =>
              cases e
              obtain ⟨vs, hv, rv⟩ := S _ _ g
              refine .inr (.inl ⟨_, _, rfl, hv, ?_⟩)
              rw [← Paired.len rv]; exact fin
            | true => cases e
          | ins C fs => cases e
    · exact False.elim q
theorem e_b_len {p pos : Pos} {e : Expr} {t : TA2} (hg : Gl X "len") (hm : X.mg "len" = none) (ha : PA2 X [e] t) (he : starEach [e] X.env = (false, eval e X.env) :: starEach [] X.env := by rfl) :
    PE2 X (.Call (.Name "len" p) [e] [] pos) (uBlt b_len t) := e_blt c_len PySem.boot_len hg hm ha (by decide) (by decide) he rfl
/-! ### list(x), tuple(x) -/
/-- the items of what is walked once: a list, a tuple -/
def itemsW (G : WH) : W → Option (List W)
  | .tup ws => some ws
  | .scr ws => some ws
  | .ref a => match G a with
    | some (.lst ws) => some ws
    | _ => none
  | _ => none
theorem items_sq {K : PySem.W.Frag} {G : WH} {H : Hp} {w : W} {x : V} {ws : List W} (S : Sim K G H) (r : Rep K H w x) (e : itemsW G w = some ws) : ∃ p ys, x = .ref p ∧ (SqL K H p ys ∨ SqT K H p ys) ∧ Reps K H ws ys := by
  unfold itemsW at e
  cases w <;> first | (cases e; done) | skip
  case tup zs => cases r with | tup t r => cases e; exact ⟨_, _, rfl, .inr t.sq, r⟩
  case scr zs => cases r with | scr t r => cases e; exact ⟨_, _, rfl, .inl t.sq, r⟩
  case ref a =>
    cases r
    dsimp only at e
    cases g : G a with
    | none => rw [g] at e; cases e
    | some o =>
      rw [g] at e
      cases o with
      | lst zs => cases e; obtain ⟨vs, hv, rv⟩ := S _ _ g; exact ⟨_, _, rfl, .inl (.of hv), rv⟩
      | dct t kvs => cases e
      | ins C fs => cases e
def b_list : C2 := fun ws G Q => match ws with
  | [w] => ∃ zs, itemsW G w = some zs ∧ ∀ p, G p = none → Q (.ref p) (gup G p (.lst zs))
  | _ => False
theorem c_list : CallR X (.type "list") (lowC X.K b_list) :=
  CallR.imp call_list_of fun xs H Q ⟨ws, G, Q2, S, r, q, c⟩ => by
    unfold b_list at q
    split at q
    · obtain ⟨zs, e, q⟩ := q
      obtain ⟨v0, e0, r0⟩ := r.un1
      subst e0
      clear r
      revert r0
      intro r
      obtain ⟨p, ys, rfl, hs, rv⟩ := items_sq S r e
      exact ⟨p, ys, rfl, hs, fun l hl => c _ _ _ _ (.fresh hl) (S.laid hl (.l upd_same (rv.mono (.fresh hl)))) (.ref l) (q l (S.no hl))⟩
    · exact False.elim q
theorem e_b_list {p pos : Pos} {e : Expr} {t : TA2} (hg : Gl X "list") (hm : X.mg "list" = none) (ha : PA2 X [e] t) (he : starEach [e] X.env = (false, eval e X.env) :: starEach [] X.env := by rfl) :
    PE2 X (.Call (.Name "list" p) [e] [] pos) (uBlt b_list t) := e_bltT c_list (by rfl) hg hm ha (by decide) (by decide) he rfl
def b_tuple : C2 := fun ws G Q => match ws with
  | [w] => ∃ zs, itemsW G w = some zs ∧ Q (.tup zs) G
  | _ => False
theorem c_tuple : CallR X (.type "tuple") (lowC X.K b_tuple) :=
  CallR.imp call_tuple_of fun xs H Q ⟨ws, G, Q2, S, r, q, c⟩ => by
    unfold b_tuple at q
    split at q
    · rename_i w
      obtain ⟨zs, e, q⟩ := q
      obtain ⟨v0, e0, r0⟩ := r.un1
      subst e0
      clear r
      revert r0
      intro r
      by_cases ht : ∃ us, w = .tup us
      · obtain ⟨us, rfl⟩ := ht
        cases e
        cases r with
        | tup t r => exact ⟨_, _, rfl, .inr ⟨t.sq, c _ H _ G (.refl H) S (.tup t r) q⟩⟩
      · have hl : ∃ p ys, v0 = V.ref p ∧ SqL X.K H p ys ∧ Reps X.K H zs ys := by
          unfold itemsW at e
          cases w <;> first | (cases e; done) | skip
          case tup us => exact absurd ⟨us, rfl⟩ ht
          case scr us => cases r with | scr t r => cases e; exact ⟨_, _, rfl, t.sq, r⟩
          case ref a =>
            cases r
            dsimp only at e
            cases g : G a with
            | none => rw [g] at e; cases e
            | some o =>
              rw [g] at e
              cases o with
              | lst zs => cases e; obtain ⟨vs, hv, rv⟩ := S _ _ g; exact ⟨_, _, rfl, .of hv, rv⟩
              | dct t kvs => cases e
              | ins C fs => cases e
        obtain ⟨p, ys, rfl, hs, rv⟩ := hl
        exact ⟨p, ys, rfl, .inl ⟨hs, fun l hl => c _ _ _ _ (.fresh hl) (S.fresh hl) (.tup (.inl upd_same) (rv.mono (.fresh hl))) q⟩⟩
    · exact False.elim q
theorem e_b_tuple {p pos : Pos} {e : Expr} {t : TA2} (hg : Gl X "tuple") (hm : X.mg "tuple" = none) (ha : PA2 X [e] t) (he : starEach [e] X.env = (false, eval e X.env) :: starEach [] X.env := by rfl) :
    PE2 X (.Call (.Name "tuple" p) [e] [] pos) (uBlt b_tuple t) := e_bltT c_tuple (by rfl) hg hm ha (by decide) (by decide) he rfl
/-! ### isinstance(x, int) and its like -/
def tyN (G : WH) : W → Option String
  | .non => some "NoneType"
  | .bl _ => some "bool"
  | .int _ => some "int"
  | .str _ => some "str"
  | .tup _ => some "tuple"
  | .scr _ => some "list"
  | .ref a => match G a with
    | some (.lst _) => some "list"
    | some (.dct _ _) => some "dict"
    | _ => none
  | _ => none
def isTab (t tn : String) : Option Bool :=
  if t ∈ ["NoneType", "bool", "int", "str", "tuple", "list", "dict"] ∧ tn ∈ ["bool", "int", "str", "tuple", "list", "dict"] then some (t == tn || (t == "bool" && tn == "int")) else none
theorem isTab_kit {K : PySem.W.Frag} {t tn : String} {b : Bool} (h : isTab t tn = some b) : PySem.W.kitOne K (.type t) (.type tn) = some b := by
  unfold isTab at h
  split at h
  · rename_i hm
    obtain ⟨h1, h2⟩ := hm
    simp only [List.mem_cons, List.not_mem_nil, or_false] at h1 h2
    rcases h1 with rfl | rfl | rfl | rfl | rfl | rfl | rfl <;> rcases h2 with rfl | rfl | rfl | rfl | rfl | rfl <;> (cases h; rfl)
  · cases h
def b_isi (tn : String) : C2 := fun ws G Q => match ws with
  | [w, .ty _] => ∃ t b, tyN G w = some t ∧ isTab t tn = some b ∧ Q (.bl b) G
  | _ => False
theorem c_isi (tn : String) : CallR X (.builtin "isinstance") (fun xs H Q => ∃ x, xs = [x, .ty tn] ∧ lowC X.K (b_isi tn) xs H Q) := by
  rintro pins s σ H xs us Q I rv ⟨x, rfl, ws, G, Q2, S, r, q, c⟩
  obtain ⟨u1, u2, rfl, r1, r2⟩ := rv.two
  cases r2
  unfold b_isi at q
  split at q
  · rename_i w n
    obtain ⟨t, b, e, hk, q⟩ := q
    cases r with | cons r rr =>
    have hk' : PySem.W.kitOne X.K (.type t) (.type tn) = some b := isTab_kit hk
    have fin : ∀ tk, EP X pins σ Q (.bool b) { s with toks := tk } := fun tk => ⟨.bl b, H, I.tok tk, rfl, c _ H _ G (.refl H) S (.bl _) q⟩
    cases w <;> first | (cases e; done) | skip
    case non => cases r; cases e; exact isinst_ok I r1 .non hk' fin
    case bl k => cases r; cases e; exact isinst_ok I r1 (.bl k) hk' fin
    case int k => cases r; cases e; exact isinst_ok I r1 (.int k) hk' fin
    case str k => cases r; cases e; exact isinst_ok I r1 (.str k) hk' fin
    case tup zs =>
      cases e
      cases r with
      | tup t r =>
        cases r1
        obtain ⟨its, vv, ⟨o, h1, h2, _⟩, _⟩ := I.tuple t.sq
        exact PySem.W.kia_one PySem.W.kitx_tuple I.kIn ⟨o, h1, h2⟩ hk' (fun z => nomatch z) fin
    case scr zs =>
      cases e
      cases r with
      | scr t r =>
        cases r1
        obtain ⟨its, vv, ⟨o, n, h1, h2, _⟩, _⟩ := I.list t.sq
        exact PySem.W.kia_one PySem.W.kitx_list I.kIn ⟨o, h1, h2⟩ hk' (fun z => nomatch z) fin
    case ref a =>
      cases r
      unfold tyN at e
      dsimp only at e
      cases g : G a with
      | none => rw [g] at e; cases e
      | some o =>
        rw [g] at e
        cases o with
        | lst zs => cases e; obtain ⟨vs, hv, rv⟩ := S _ _ g; exact isinst_ok I r1 (.lst hv) hk' fin
        | dct t kvs =>
          cases e
          cases t with
          | false => obtain ⟨vs, hv, rv⟩ := S _ _ g; exact isinst_ok I r1 (.dK hv) hk' fin
          | true => obtain ⟨vs, hv, rv⟩ := S _ _ g; exact isinst_ok I r1 (.dT hv) hk' fin
        | ins C fs => cases e
  · exact False.elim q
def uIsI (tn : String) (te : TE2) : TE2 := fun τ G Q => te τ G fun w G1 => ∃ t b, tyN G1 w = some t ∧ isTab t tn = some b ∧ Q (.bl b) G1
theorem e_isi {c : Str} {tn : String} {p p2 pos : Pos} {e : Expr} {te : TE2} (hb : bootBuiltins c = some (.type tn)) (hg : Gl X "isinstance") (hm : X.mg "isinstance" = none) (hgc : Gl X c) (hmc : X.mg c = none) (h : PE2 X e te)
    (hn : c ≠ "__name__" := by decide) (hd : (c == ("__debug__" : Str)) = false := by decide) (hs1 : starEach [e, .Name c p2] X.env = (false, eval e X.env) :: starEach [.Name c p2] X.env := by rfl)
    (hs2 : starEach [.Name c p2] X.env = (false, eval (.Name c p2) X.env) :: starEach [] X.env := by rfl) (hpl : (backTo pos (starEach [.Name c p2] X.env)).any (·.1) = false := by rfl) :
    PE2 X (.Call (.Name "isinstance" p) [e, .Name c p2] [] pos) (uIsI tn te) := by
  have hc : PE X (.Name c p2) (tC (.ty tn)) := pe_bltn hgc hmc hb rfl hn hd
  refine PE.imp (pe_callB (c_isi tn) hg hm (by rfl) (pa_cons h (pa_cons hc pa_nil hs2) hs1) (by decide) (by decide) hs1 hpl) fun σ H Q ⟨τ, G, Q2, hs, hg, ht, c⟩ => ?_
  refine ⟨τ, G, _, hs, hg, ht, fun v H1 w G1 t1 s1 r1 h1 => ⟨v, rfl, [w, .ty tn], G1, Q2, s1, .cons r1 (.cons (.ty tn) .nil), h1, c.mono t1⟩⟩
end
end L3

set_option Elab.async false
set_option linter.all false
set_option maxRecDepth 100000
namespace L3
open PySem PySem.Spec L2
open PyProof.Rows hiding St

/-! ### in, not in -/
theorem any_dv {h : Heap} {x : W} (e : Value → Bool) : ∀ {ds : List W} {us : List Value}, DVs h ds us → (∀ d u, DV h d u → e u = eqD d x) → us.any e = ds.any fun d => eqD d x
  | _, _, .nil, _ => rfl
  | _, _, .cons a b, he => by rw [List.any_cons, List.any_cons, any_dv e b he, he _ _ a]
def in2 (neg : Bool) : R22 := fun x y G Q => match y with
  | .ref a => (match G a with
    | some (.dct t kvs) => isKey t x = true ∧ Q (.bl (if neg then !(lookW kvs x).isSome else (lookW kvs x).isSome)) G
    | some (.lst ws) => ∃ d ds, Den G x d ∧ Dens G ws ds ∧ (∀ z ∈ ds, Dep 30 z) ∧ Q (.bl (if neg then !(ds.any fun z => eqD z d) else ds.any fun z => eqD z d)) G
    | _ => False)
  | .tup ws => ∃ d ds, Den G x d ∧ Dens G ws ds ∧ (∀ z ∈ ds, Dep 30 z) ∧ Q (.bl (if neg then !(ds.any fun z => eqD z d) else ds.any fun z => eqD z d)) G
  | _ => False
section
variable {X : Cx}
theorem seq_eq {s : Shared} {A : Around} {d : W} {ds : List W} {u : Value} {us : List Value} (hu : A.units + 30 < cLine) (hd : DV s.heap d u) (r : DVs s.heap ds us) (dep : ∀ z ∈ ds, Dep 30 z) :
    ∃ e : Value → Bool, (∀ y, y ∈ us → SeqAt.EqAt A s y u (e y)) ∧ us.any e = ds.any fun z => eqD z d := by
  classical
  let e : Value → Bool := fun y => decide (∃ z, DV s.heap z y ∧ eqD z d = true)
  have he : ∀ z y, DV s.heap z y → e y = eqD z d := fun z y hz => by
    cases q : eqD z d with
    | true => exact decide_eq_true ⟨z, hz, q⟩
    | false => exact decide_eq_false fun ⟨z', h1, h2⟩ => by rw [h1.inj hz, q] at h2; cases h2
  refine ⟨e, fun y hy => ?_, any_dv e r he⟩
  obtain ⟨i, hi, rfl⟩ := List.mem_iff_getElem.mp hy
  obtain ⟨z, hz, dz⟩ := r.get' (i := i) (v := us[i]) (by simp [hi])
  rw [he z _ dz]
  exact (both_deep s 30 A z d _ _ (dep z (List.mem_of_getElem? hz)) dz hd hu).eq
theorem o_inG (neg : Bool) (hu : X.A.units + 40 < cLine) : OpR2 X (compareOp (if neg then .NotIn else .In)) (in2 neg) := by
  rintro pins s σ H x y v u Q I rx ry ⟨w, w', G, Q2, S, r1, r2, q, c⟩
  have hu1 : X.A.units + 1 < cLine := by omega
  have hu2 : X.A.in1.units + 30 < cLine := by rw [units_in1]; omega
  unfold in2 at q
  cases w' <;> first | exact False.elim q | skip
  case ref a =>
    cases r2
    cases ry
    dsimp only at q
    cases g : G a with
    | none => rw [g] at q; exact False.elim q
    | some o =>
      rw [g] at q
      cases o with
      | dct t kvs =>
        obtain ⟨hk, q⟩ := q
        obtain ⟨o, gg, hh⟩ := dget_of S g hk r1
        have hb : o.isSome = (lookW kvs w).isSome := by
          rcases hh with ⟨z, zv, e1, rfl, _⟩ | ⟨e1, rfl⟩ <;> rw [e1] <;> rfl
        cases neg with
        | false => refine d_in hu1 I gg rx fun s' I' => ⟨.bl o.isSome, H, I', rfl, ?_⟩; rw [hb]; exact c _ H _ G (.refl H) S (.bl _) q
        | true => refine d_notIn hu1 I gg rx fun s' I' => ⟨.bl (!o.isSome), H, I', rfl, ?_⟩; rw [hb]; exact c _ H _ G (.refl H) S (.bl _) q
      | lst ws =>
        obtain ⟨d, ds, h1, h2, dep, q⟩ := q
        obtain ⟨vs, hv, rv⟩ := S _ _ g
        obtain ⟨its, vv, pl, _⟩ := I.list (.of hv)
        obtain ⟨e, he, ha⟩ := seq_eq (A := X.A.in1) hu2 (h1.dv I S r1 rx) (h2.dv I S rv vv) dep
        have hb : its.toArray.any e = ds.any fun z => eqD z d := by simpa using ha
        cases neg with
        | false => refine SeqAt.in_listAt e pl.isList (fun y hy => he y (by simpa using hy)) ⟨.bl _, H, I, rfl, ?_⟩; rw [hb]; exact c _ H _ G (.refl H) S (.bl _) q
        | true => refine SeqAt.notIn_listAt e pl.isList (fun y hy => he y (by simpa using hy)) ⟨.bl _, H, I, rfl, ?_⟩; rw [hb]; exact c _ H _ G (.refl H) S (.bl _) q
      | ins C fs => exact False.elim q
  case tup ws =>
    obtain ⟨d, ds, h1, h2, dep, q⟩ := q
    cases r2 with
    | tup t rv =>
      cases ry
      obtain ⟨its, vv, pl, _⟩ := I.tuple t.sq
      obtain ⟨e, he, ha⟩ := seq_eq (A := X.A.in1) hu2 (h1.dv I S r1 rx) (h2.dv I S rv vv) dep
      have hb : its.toArray.any e = ds.any fun z => eqD z d := by simpa using ha
      cases neg with
      | false => refine SeqAt.in_tupleAt e pl (fun y hy => he y (by simpa using hy)) ⟨.bl _, H, I, rfl, ?_⟩; rw [hb]; exact c _ H _ G (.refl H) S (.bl _) q
      | true => refine SeqAt.notIn_tupleAt e pl (fun y hy => he y (by simpa using hy)) ⟨.bl _, H, I, rfl, ?_⟩; rw [hb]; exact c _ H _ G (.refl H) S (.bl _) q
theorem o_in (hu : X.A.units + 40 < cLine) : OpR2 X (compareOp .In) (in2 false) := o_inG false hu
theorem o_notin (hu : X.A.units + 40 < cLine) : OpR2 X (compareOp .NotIn) (in2 true) := o_inG true hu
end

/-! ### constants of the module -/
/-- a tuple of the module -/
theorem cst_tup {K : PySem.W.Frag} {a : Addr} {o : Obj} {its : Array Value} {n : Nat} {vs : List V} {ws : List W} (l : K.lookup a = some o) (e : o = { cls := .type "tuple", data := .seq its n }) (r : Vals vs its.toList) (hl : its.size ≤ 100) (rw : ∀ H, Reps K H ws vs) (H : Hp) : Rep K H (.tup ws) (.ref a) :=
  .tup (.inr ⟨o, its, n, l, by rw [e], by rw [e], Nat.le_trans hl (by decide), r⟩) (rw H)
/-- a dict of the module, its keys texts -/
structure CDict (K : PySem.W.Frag) (w : World) (a : Addr) (tbl : List (Str × W)) : Prop where
  ex : ∃ (es : List (Str × Tok × Value)) (ep : Nat), K.lookup a = some { cls := .type "dict", data := .dict (es.map fun e => ({ hash := PyData.keyHash w.params e.1, key := .str e.1 e.2.1, val := e.2.2 } : DictEntry)).toArray ep } ∧
    Paired (fun (p : Str × W) (q : Str × Tok × Value) => p.1 = q.1 ∧ ∃ v, RelV v q.2.2 ∧ ∀ H, Rep K H p.2 v) tbl es
theorem cst_find {K : PySem.W.Frag} {P : Program} {w : World} {s : Str} {z : W} : ∀ {tbl : List (Str × W)} {es : List (Str × Tok × Value)}, Paired (fun (p : Str × W) (q : Str × Tok × Value) => p.1 = q.1 ∧ ∃ v, RelV v q.2.2 ∧ ∀ H, Rep K H p.2 v) tbl es → tbl.lookup s = some z →
    ∃ u v, ((es.map fun e => ({ hash := PyData.keyHash w.params e.1, key := .str e.1 e.2.1, val := e.2.2 } : DictEntry)).find? fun e => (mixKind P w).is (.inr s) e.key).map (·.val) = some u ∧ RelV v u ∧ ∀ H, Rep K H z v
  | _, _, .nil, h => by cases h
  | _, _, .cons (a := p) (b := q) hp t, h => by
    obtain ⟨n, pw⟩ := p
    obtain ⟨m, tk, u⟩ := q
    obtain ⟨e, v, rv, rr⟩ := hp
    dsimp only at e rv rr
    subst e
    rw [List.lookup_cons] at h
    by_cases hs : s = n
    · subst hs
      simp only [beq_self_eq_true] at h
      cases h
      refine ⟨u, v, ?_, rv, rr⟩
      rw [List.map_cons, List.find?_cons]
      have : (mixKind P w).is (.inr s) (.str s tk) = true := mixKind_str P w s tk
      rw [this]
      rfl
    · have hb : (s == n) = false := by simpa using hs
      rw [hb] at h
      obtain ⟨u', v', h1, h2⟩ := cst_find (P := P) (w := w) t h
      refine ⟨u', v', ?_, h2⟩
      rw [List.map_cons, List.find?_cons]
      have : (mixKind P w).is (.inr s) (.str n tk) = false := by
        show keyIs (.inr s) (.str n tk) = false
        simp only [keyIs, Value.isStrOf]
        simpa using fun z => hs z.symm
      rw [this]
      exact h1
def uCget (tbl : List (Str × W)) (ti : TE2) : TE2 := fun τ G Q => ti τ G fun w G1 => match w with
  | .str s => ∃ z, tbl.lookup s = some z ∧ Q z G1
  | _ => False
section
variable {X : Cx}
theorem e_cget {x : Str} {a : Addr} {tbl : List (Str × W)} {i : Expr} {ti : TE2} {p pos : Pos} (D : CDict X.K X.w a tbl) (hg : Gl X x) (hm : X.mg x = some (.ref a)) (hi : PE2 X i ti) (hs : NoSl i := by exact fun _ _ => rfl) (hd : (x == ("__debug__" : Str)) = false := by decide) :
    PE2 X (.Subscript (.Name x p) i pos) (uCget tbl ti) := by
  intro pins s σ H Q I ⟨τ, G, Q2, hs2, hg2, ht, hc⟩
  have hx : PE X (.Name x p) (tC (.ref a)) := pe_glob hg hm rfl hd
  refine subD_of PySem.F.slot_dict_getitem.lookup hs (thn (hx pins s σ H (fun v H' => v = .ref a ∧ H' = H) I ⟨rfl, rfl⟩) fun u s1 ⟨v, H1, I1, r1, e1, e2⟩ => ?_)
  subst e1 e2
  cases r1
  refine thn (hi pins s1 σ _ _ I1 ⟨τ, G, _, hs2, hg2, ht, fun v H2 w G2 t2 s2 r2 h2 => (show (∃ w G2, TX _ H2 ∧ Sim X.K G2 H2 ∧ Rep X.K H2 w v ∧ (match w with | .str s => ∃ z, tbl.lookup s = some z ∧ Q2 z G2 | _ => False)) from ⟨w, G2, t2, s2, r2, h2⟩)⟩) fun iv s2 ⟨v, H2, I2, rv, w, G2, t2, g2, r2, q⟩ => ?_
  cases w <;> first | exact False.elim q | skip
  case str k =>
    cases r2
    obtain ⟨tk, rfl⟩ := rv
    obtain ⟨z, hz, q⟩ := q
    obtain ⟨es, ep, hl, rel⟩ := D.ex
    obtain ⟨u, v, hf, rv, rr⟩ := cst_find (P := X.prog) (w := X.w) rel hz
    have ho := I2.kIn a _ hl
    have M : s2.heap.MapOf (mixKind X.prog X.w) a (fun k => findBy (mixKind X.prog X.w).is (es.map fun e => ({ hash := PyData.keyHash X.w.params e.1, key := .str e.1 e.2.1, val := e.2.2 } : DictEntry)).toArray k) := by
      refine ⟨_, _, _, ho, ⟨rfl, rfl, rfl⟩, rfl, fun e he => ?_, fun k => rfl⟩
      have he' : e ∈ es.map fun e => ({ hash := PyData.keyHash X.w.params e.1, key := .str e.1 e.2.1, val := e.2.2 } : DictEntry) := by simpa using he
      obtain ⟨x, hx, rfl⟩ := List.mem_map.mp he'
      exact ⟨.inr x.1, mixKind_str _ _ _ _, rfl⟩
    refine ⟨⟨_, ho, rfl⟩, wpAny_getItem_of (k := Sum.inr k) (mixKind_str _ _ _ _) M (v := u) ?_ ?_⟩
    · show findBy _ _ _ = some u
      unfold findBy
      rw [← hf]
      simp
    · exact ⟨v, H2, I2.tok _, rv, hc _ H2 _ G2 t2 g2 (rr H2) q⟩
end
end L3

set_option Elab.async false
set_option linter.all false
set_option maxRecDepth 100000
namespace L3
open PySem PySem.Spec L2
open PyProof.Rows hiding St

/-! ### the text's side of a comprehension, decided once -/
def relabelS (scope osc : Scope) : List (Str × NameKind) := scope.names.map fun (n, k) => if (k == .free && osc.kind == .function && osc.names.lookup n == some .cell) then (n, .cell) else (n, k)
def compOk (osc : Scope) (N : List Str) (scope : Scope) (cap : List (Option Nat)) (N' : List Str) : Bool :=
  decide (scope.kind = .function) && (scope.names.all fun y => decide (y.2 ≠ .cell)) && (scope.names.all fun y => !decide (y.2 = .local) || decide (scope.names.lookup y.1 = some .local)) &&
  (scope.names.all fun y => !decide (y.2 = .free) || decide (osc.names.lookup y.1 = some .cell)) && decide (cap.length = N'.length) &&
  ((List.range cap.length).all fun i => match cap[i]?, N'[i]? with
    | some (some j), some x => decide (N[j]? = some x) && decide (osc.names.lookup x = some .cell) && decide ((relabelS scope osc).lookup x = some .cell) && decide ((x, NameKind.free) ∈ scope.names)
    | _, _ => true)
theorem compOk_of {X : Cx} {scope : Scope} {cap : List (Option Nat)} {N' N : List Str} {osc : Scope} (h : compOk osc N scope cap N' = true) (hs : X.env.scope = osc) (hN : X.N = N) : CompOk X scope cap N' := by
  subst hs hN
  unfold compOk at h
  simp only [Bool.and_eq_true, decide_eq_true_eq, List.all_eq_true, Bool.or_eq_true, Bool.not_eq_true', decide_eq_false_iff_not] at h
  obtain ⟨⟨⟨⟨⟨h1, h2⟩, h3⟩, h4⟩, h5⟩, h6⟩ := h
  refine ⟨h1, h2, fun y hy hk => (h3 y hy).resolve_left fun z => z hk, fun y hy hk => (h4 y hy).resolve_left fun z => z hk, h5, fun i j x hc hn => ?_⟩
  have hi : i < cap.length := (List.getElem?_eq_some_iff.mp hc).1
  have q := h6 i (List.mem_range.mpr hi)
  rw [hc, hn] at q
  simp only [Bool.and_eq_true, decide_eq_true_eq] at q
  exact ⟨q.1.1.1, q.1.1.2, q.1.2, q.2⟩

/-! ### short words over the readings -/
section
variable {G : WH} {a : Addr} {ws : List W} {t : Bool} {kvs : List (W × W)} {Q : VK2} {w z : W}
theorem ix2_l {i : Int} (h : G a = some (.lst ws)) (e : atI ws i = some w) (q : Q w G) : ix2 (.ref a) (.int i) G Q := by
  unfold ix2; dsimp only; rw [h]; exact ⟨w, e, q⟩
theorem ix2_d (h : G a = some (.dct t kvs)) (hk : isKey t z = true) (e : lookW kvs z = some w) (q : Q w G) : ix2 (.ref a) z G Q := by
  unfold ix2; dsimp only; rw [h]; exact ⟨hk, w, e, q⟩
theorem set2_l {i : Int} {j : Nat} {v : W} {R : WH → Prop} (h : G a = some (.lst ws)) (e : ixN ws.length i = some j) (q : R (gup G a (.lst (ws.set j v)))) : set2 (.ref a) (.int i) v G R := by
  unfold set2; dsimp only; rw [h]; exact ⟨j, e, q⟩
theorem set2_d {v : W} {R : WH → Prop} (h : G a = some (.dct t kvs)) (hk : isKey t z = true) (hl : kvs.length < sizeLine) (q : R (gup G a (.dct t (putW kvs z v)))) : set2 (.ref a) z v G R := by
  unfold set2; dsimp only; rw [h]; exact ⟨hk, hl, q⟩
theorem lenW_l (h : G a = some (.lst ws)) : lenW G (.ref a) = some ws.length := by unfold lenW; dsimp only; rw [h]
theorem itemsW_l (h : G a = some (.lst ws)) : itemsW G (.ref a) = some ws := by unfold itemsW; dsimp only; rw [h]
theorem tyN_l (h : G a = some (.lst ws)) : tyN G (.ref a) = some "list" := by unfold tyN; dsimp only; rw [h]
theorem tyN_d (h : G a = some (.dct t kvs)) : tyN G (.ref a) = some "dict" := by unfold tyN; dsimp only; rw [h]
theorem in2_d {neg : Bool} (h : G a = some (.dct t kvs)) (hk : isKey t z = true) (q : Q (.bl (if neg then !(lookW kvs z).isSome else (lookW kvs z).isSome)) G) : in2 neg z (.ref a) G Q := by
  unfold in2; dsimp only; rw [h]; exact ⟨hk, q⟩
theorem in2_l {neg : Bool} {d : W} {ds : List W} (h : G a = some (.lst ws)) (h1 : Den G z d) (h2 : Dens G ws ds) (hd : ∀ z ∈ ds, Dep 30 z) (q : Q (.bl (if neg then !(ds.any fun z => eqD z d) else ds.any fun z => eqD z d)) G) : in2 neg z (.ref a) G Q := by
  unfold in2; dsimp only; rw [h]; exact ⟨d, ds, h1, h2, hd, q⟩
end
theorem dep_str {n : Nat} {x : Str} : Dep n (.str x) := .flat fun _ => ⟨(nomatch ·), (nomatch ·)⟩
theorem dep_non {n : Nat} : Dep n .non := .flat fun _ => ⟨(nomatch ·), (nomatch ·)⟩
theorem dep_int {n : Nat} {i : Int} : Dep n (.int i) := .flat fun _ => ⟨(nomatch ·), (nomatch ·)⟩
theorem dep_bl {n : Nat} {i : Bool} : Dep n (.bl i) := .flat fun _ => ⟨(nomatch ·), (nomatch ·)⟩
theorem dep_ints {n : Nat} {is : List Int} : Dep (n + 1) (.tup (is.map .int)) := .tup fun w hw => by
  obtain ⟨i, _, rfl⟩ := List.mem_map.mp hw
  exact dep_int
/-- what stood before stands behind a new thing -/
theorem gk {G : WH} {a p : Addr} {o o' : WO} (h : G a = some o) (hp : G p = none) : gup G p o' a = some o := (gup_ne (gne_of_none h hp)).trans h
end L3

set_option Elab.async false
set_option linter.all false
set_option maxRecDepth 100000
namespace L3
open PySem PySem.Spec L2
open PyProof.Rows hiding St
section
variable {X : Cx} {pins : List (Addr × Obj)} {σ : St} {H : Hp} {s s' : Shared} {fp : List Addr}
/-- records of ours have turned -/
theorem _root_.L2.Inv.turnedMany (I : Inv X pins σ H s) (hf : ∀ b ∈ fp, FpOk X pins H b) (ho : s'.os = s.os) (hb : AllBare s'.gens) (k : ∀ b o, b ∉ fp → s.heap.get? b = some o → s'.heap.get? b = some o) : Inv X pins σ H s' := by
  refine I.call' (s' := s') (ch := fp) ho ⟨fun b o e n _ hx => k b o hx e, fun b o e n _ hx => ⟨o.slots, k b o hx e⟩, fun b o e n _ => n, fun b o e hx => ⟨o, k b o hx e⟩, fun _ _ e => e, fun _ _ _ e => e, fun b ps e => ⟨#[], by rw [e]; simp⟩⟩ (fun b u e => ?_) hb fun b hb => ?_
  · refine (I.hok b u e).stay (fun c v hc q => k c v ?_ q) (fun _ q => q) fun _ _ q => q
    rcases hc with z | z
    · intro hm; rw [z] at hm; rw [(hf b hm).1] at e; cases e
    · intro hm; rw [(hf c hm).1] at z; cases z
  · exact ⟨(hf b hb).2.2.2.1, (hf b hb).2.1, (hf b hb).2.2.2.2.1, (hf b hb).2.2.2.2.2⟩
/-- .. and a new tuple has come -/
theorem _root_.L2.Inv.turnedTup {T : Addr} {vs : List V} {its : List Value} (I : Inv X pins σ H s) (hf : ∀ b ∈ fp, FpOk X pins H b) (hT : s.heap.objs.size ≤ T) (ho : s'.os = s.os) (hb : AllBare s'.gens) (k : ∀ b o, b ∉ fp → s.heap.get? b = some o → s'.heap.get? b = some o)
    (tp : IsTup s'.heap T its.toArray) (r : Vals vs its) (z : vs.length ≤ sizeLine) : Inv X pins σ (upd H T (.tup vs)) s' := by
  have hn : H T = none := I.hok.fresh hT
  refine I.call' (s' := s') (ch := fp) ho ⟨fun b o e n _ hx => k b o hx e, fun b o e n _ hx => ⟨o.slots, k b o hx e⟩, fun b o e n _ => ?_, fun b o e hx => ⟨o, k b o hx e⟩, fun b xs e => ?_, fun b o u e => ?_, fun b ps e => ⟨#[], ?_⟩⟩ (fun b u e => ?_) hb fun b hb => ?_
  · rw [upd_ne (Nat.ne_of_lt (Nat.lt_of_lt_of_le (Heap.lt_size e) hT))]; exact n
  · rw [upd_ne (ne_of_none e hn)]; exact e
  · rw [upd_ne (ne_of_none e hn)]; exact e
  · rw [upd_ne (ne_of_none e hn), e]; simp
  · by_cases hbT : b = T
    · subst hbT; rw [upd_same] at e; cases e
      exact ⟨z, its, r, tp⟩
    · rw [upd_ne hbT] at e
      refine (I.hok b u e).stay (fun c v hc q => k c v ?_ q) (fun c q => by rw [upd_ne (ne_of_none q hn)]; exact q) fun c xs q => by rw [upd_ne (ne_of_none q hn)]; exact q
      rcases hc with z | z
      · intro hm; rw [z] at hm; rw [(hf b hm).1] at e; cases e
      · intro hm; rw [(hf c hm).1] at z; cases z
  · exact ⟨(hf b hb).2.2.2.1, (hf b hb).2.1, (hf b hb).2.2.2.2.1, (hf b hb).2.2.2.2.2⟩
end
/-- a turn of enumerate over the list at a -/
def Ite (K : PySem.W.Frag) (a : Addr) : It :=
  ⟨fun i H => ∃ xs x, SqL K H a xs ∧ xs[i]? = some x, fun i H x H' => ∃ p y, H p = none ∧ (∀ xs, SqL K H a xs → xs[i]? = some y) ∧ x = .ref p ∧ H' = upd H p (.tup [.int i, y]), fun i H => ∃ xs, SqL K H a xs ∧ xs.length ≤ i⟩
theorem turn_enum {P : Program} {w : World} {K : PySem.W.Frag} {elts : List Expr} {k : Nat} {pos : Pos} (l e it : Addr) (hei : e ≠ it) (hle : l ≠ e) (hli : l ≠ it) :
    Turn P w K (.Tuple elts k pos) (Ite K l) [e, it] e (fun i h => (∃ old, IsEnum h e it i old) ∧ h.IsListIter it l i) where
  mem := by simp
  obj := fun i h st b hb => by
    obtain ⟨⟨old, he⟩, ⟨o, e1, c, d⟩⟩ := st
    have hb' : b = e ∨ b = it := by simpa using hb
    rcases hb' with rfl | rfl
    · exact ⟨_, he, fun v z => by cases z⟩
    · exact ⟨o, e1, fun v z => by rw [d] at z; cases z⟩
  keep := fun i h h' st kk => ⟨let ⟨old, he⟩ := st.1; ⟨old, kk e (by simp) _ he⟩, st.2.at fun o e => kk it (by simp) o e⟩
  item := by
    intro X hP hw hK hc i pins s σ H E I hf st hg
    subst hP hw hK
    obtain ⟨xs, x, hq, hx⟩ := hg
    obtain ⟨its, rv, p, hz⟩ := I.list hq
    obtain ⟨u, hu, ru⟩ := rv.get hx
    have Wk := WalksT.enumerate (prog := X.prog) (w := X.w) (I.ok.hd hc) e it l hei hle hli its.toArray
    have hlt : i < its.toArray.size := by simpa using (List.getElem?_eq_some_iff.mp hu).1
    refine Wk.item i s _ _ hlt ⟨st.1, st.2, p.isList⟩ fun T vals h' tk hv hT htp hm hk => ?_
    obtain ⟨tt, y, hy, rfl⟩ := hv
    have hyu : y = u := by
      have : its[i]? = some y := by simpa using hy
      rw [hu] at this
      exact (Option.some.inj this).symm
    subst hyu
    refine ⟨_, rfl, Wk.go elts k pos i T { s with heap := h', toks := tk } _ _ hm fun h'' st' hk' => ?_⟩
    have kk : ∀ b o, b ∉ [e, it] → s.heap.get? b = some o → h''.get? b = some o := fun b o hb q => hk' b o hb (hk b o hb q)
    have htp' : IsTup h'' T #[.int i tt, y] := htp.at fun o q => hk' T o (Wk.apart i T _ hm) q
    have I2 := I.turnedTup (s' := { s with heap := h'', toks := tk }) hf hT rfl I.bare kk (its := [.int i tt, y]) (vs := [.int i, x]) (by simpa using htp') (.cons ⟨tt, rfl⟩ (.cons ru .nil)) (by show 2 ≤ sizeLine; decide)
    refine ⟨.ref T, _, I2, rfl, ⟨T, x, I.hok.fresh hT, fun ys hy => by rw [I.list_inj hy hq]; exact hx, rfl, rfl⟩, ⟨?_, st'.2.1⟩, fun b hb => ?_⟩
    · obtain ⟨old, q⟩ := st'.1
      exact ⟨old, q⟩
    · have h1 := (hf b hb).1
      obtain ⟨o, ho⟩ : ∃ o, s.heap.get? b = some o := by
        obtain ⟨⟨old, he⟩, ⟨o, e1, c, d⟩⟩ := st
        have hb' : b = e ∨ b = it := by simpa using hb
        rcases hb' with rfl | rfl
        · exact ⟨_, he⟩
        · exact ⟨o, e1⟩
      rw [upd_ne (Nat.ne_of_lt (Nat.lt_of_lt_of_le (Heap.lt_size ho) hT))]; exact h1
  done := by
    intro X hP hw hK hc i pins s σ H E I hf st hg
    subst hP hw hK
    obtain ⟨xs, hq, hx⟩ := hg
    obtain ⟨its, rv, p, hz⟩ := I.list hq
    obtain ⟨⟨old, he⟩, hit⟩ := st
    exact wpAny_pyNext_enum_end (I.ok.hd hc) he hit p.isList (Array.getElem?_eq_none (by have := rv.length; simp; omega)) fun h' hk => ⟨rfl, I.turnedMany (s' := { s with heap := h' }) hf rfl I.bare fun b o hb q => hk b o (fun z => hb (by simp [z])) q⟩
  self := fun _ _ _ _ _ st h => let ⟨_, he⟩ := st.1; wpAny_pyIter_enum he h
section
variable {X : Cx} {elts : List Expr} {k : Nat} {tpos : Pos}
def iEnum (K : PySem.W.Frag) (ta : TA) : TI := fun σ H R => ta σ H fun vs H1 => ∃ l, vs = [.ref l] ∧ (∃ xs, SqL K H1 l xs) ∧ R (Ite K l) H1
theorem pi_enum {a : Expr} {ta : TA} {p pos : Pos} (hg : Gl X "enumerate") (hm : X.mg "enumerate" = none) (ha : PA X [a] ta) (hs : starEach [a] X.env = [(false, eval a X.env)] := by rfl) : PI X (.Tuple elts k tpos) (.Call (.Name "enumerate" p) [a] [] pos) (iEnum X.K ta) := by
  intro pins s σ H R I h
  refine Call_ (ld_blt I hg hm (by rfl) (PyProof.Rows.callWith_type1 (thn (ha pos pins s σ H _ I h) fun us s1 ⟨vs, H1, I1, r1, q1⟩ => ?_) hs rfl))
  obtain ⟨l, e, ⟨xs, hq⟩, q⟩ := q1
  subst e
  obtain ⟨u, rfl, ru⟩ := r1.one
  cases ru
  obtain ⟨its, rv, pl, hz⟩ := I1.list hq
  have hll : l < s1.heap.objs.size := by obtain ⟨o, e, _⟩ := pl.isList; exact Heap.lt_size e
  refine call_enumerate_list pl.isList fun h' hE hI hsz hk => wpAny_pyIter_enum hE ?_
  have I2 : Inv X pins σ H1 { s1 with heap := h' } := I1.kept (t' := s1.toks) hk
  refine ⟨_, _, _, _, H1, rfl, I2, turn_enum l (s1.heap.objs.size + 1) s1.heap.objs.size (Nat.succ_ne_self _) (Nat.ne_of_lt (Nat.lt_succ_of_lt hll)) (Nat.ne_of_lt hll), ⟨⟨_, hE⟩, hI⟩, fun b hb => ?_, q⟩
  have hb' : b = s1.heap.objs.size + 1 ∨ b = s1.heap.objs.size := by simpa using hb
  rcases hb' with rfl | rfl
  · exact I1.fpOk (Nat.le_succ _) (I1.hok.fresh (Nat.le_succ _))
  · exact I1.fpOk (Nat.le_refl _) (I1.hok.fresh (Nat.le_refl _))
/-- the pairs of enumerate -/
def enumW (ws : List W) : List W := (List.range ws.length).zipWith (fun (i : Nat) w => W.tup [.int i, w]) ws
theorem enumW_len (ws : List W) : (enumW ws).length = ws.length := by simp [enumW]
theorem enumW_get {ws : List W} {i : Nat} {w : W} (h : (enumW ws)[i]? = some w) : ∃ z, ws[i]? = some z ∧ w = .tup [.int i, z] := by
  have hl := (List.getElem?_eq_some_iff.mp h).1
  rw [enumW_len] at hl
  refine ⟨ws[i], by simp [hl], ?_⟩
  simp [enumW, hl] at h
  exact h.symm
def i_enumerate1 (t : TA2) : TI2 := fun τ G R => t τ G fun vs G1 => match vs with
  | [.ref a] => ∃ ws, G1 a = some (.lst ws) ∧ R (enumW ws) (fun G => G a = some (.lst ws)) G1
  | _ => False
theorem i_enum {a : Expr} {t : TA2} {p pos : Pos} (hg : Gl X "enumerate") (hm : X.mg "enumerate" = none) (ha : PA2 X [a] t) (hs : starEach [a] X.env = [(false, eval a X.env)] := by rfl) : PI2 X (.Tuple elts k tpos) (.Call (.Name "enumerate" p) [a] [] pos) (i_enumerate1 t) :=
  PI.imp (pi_enum hg hm ha hs) fun σ H R ⟨τ, G, R2, hs, hg, ht, c⟩ => ⟨τ, G, _, hs, hg, ht, fun vs H1 ws G1 t1 s1 r1 h1 => by
    split at h1
    · rename_i a
      obtain ⟨ws, e1, h1⟩ := h1
      obtain ⟨v0, e0, r0⟩ := r1.un1
      subst e0
      cases r0
      obtain ⟨vs0, hv0, _⟩ := s1 _ _ e1
      refine ⟨_, rfl, ⟨_, .of hv0⟩, c _ H1 (enumW ws) _ G1 t1 s1 ⟨fun i H' G' w' tx sg va e => ?_, fun H' G' tx sg va => ?_⟩ h1⟩
      · obtain ⟨z, hz, rfl⟩ := enumW_get e
        obtain ⟨vs, hv, r⟩ := sg _ _ va
        obtain ⟨v, e', rv⟩ := r.get hz
        refine ⟨⟨_, v, .of hv, e'⟩, fun x H'' ⟨p, y, hp, hy, ex, eH⟩ => ?_⟩
        have := hy _ (.of hv)
        rw [e'] at this
        cases this
        subst ex eH
        exact ⟨.fresh hp, sg.fresh hp, .tup (.inl upd_same) (.cons (.int _) (.cons (rv.mono (.fresh hp)) .nil))⟩
      · obtain ⟨vs, hv, r⟩ := sg _ _ va
        exact ⟨_, .of hv, by rw [enumW_len, ← r.length]; exact Nat.le_refl _⟩
    · exact False.elim h1⟩
end
end L3

set_option Elab.async false
set_option linter.all false
set_option maxRecDepth 100000
namespace L3
open PySem PySem.Spec L2
open PyProof.Rows hiding St

/-! ### one of two readings -/
def uAlt (t u : TE2) : TE2 := fun τ G Q => t τ G Q ∨ u τ G Q
theorem e_alt {X : Cx} {e : Expr} {t u : TE2} (h1 : PE2 X e t) (h2 : PE2 X e u) : PE2 X e (uAlt t u) := fun pins s σ H Q I ⟨τ, G, Q2, hs, hg, ht, hc⟩ => by
  rcases ht with ht | ht
  · exact h1 pins s σ H Q I ⟨τ, G, Q2, hs, hg, ht, hc⟩
  · exact h2 pins s σ H Q I ⟨τ, G, Q2, hs, hg, ht, hc⟩

/-! ### isinstance(x, a class of the text) -/
structure TyC (K : PySem.W.Frag) (C : Addr) : Prop where
  cl : Cls K C
  ha : PySem.W.findIn K (.ref C) "__class__" = some (some (.builtin "object.__class__"))
  hn : PySem.W.specialIn K (.builtin "object.__class__") "__get__" = some (some (.builtin "getset_descriptor.__get__"))
  htk : PySem.W.takesIn K (.builtin "object.__class__") = some true
  hm : PySem.W.mroIn K C (.type "object") = some true
def uIsO (tab : List (Addr × Bool)) (te : TE2) : TE2 := fun τ G Q => te τ G fun w G1 => match w with
  | .ref a => ∃ C fs b, G1 a = some (.ins C fs) ∧ (C, b) ∈ tab ∧ Q (.bl b) G1
  | _ => False
theorem e_isO {X : Cx} {D : Addr} {c : Str} {tab : List (Addr × Bool)} {p p2 pos : Pos} {e : Expr} {te : TE2} (ht : ∀ x ∈ tab, TyC X.K x.1 ∧ PySem.W.kitOne X.K (.ref x.1) (.ref D) = some x.2)
    (hg : Gl X "isinstance") (hm : X.mg "isinstance" = none) (hgc : Gl X c) (hmc : X.mg c = some (.ref D)) (h : PE2 X e te)
    (hd : (c == ("__debug__" : Str)) = false := by decide) (hs1 : starEach [e, .Name c p2] X.env = (false, eval e X.env) :: starEach [.Name c p2] X.env := by rfl)
    (hs2 : starEach [.Name c p2] X.env = (false, eval (.Name c p2) X.env) :: starEach [] X.env := by rfl) (hpl : (backTo pos (starEach [.Name c p2] X.env)).any (·.1) = false := by rfl) :
    PE2 X (.Call (.Name "isinstance" p) [e, .Name c p2] [] pos) (uIsO tab te) := by
  have hc : PE X (.Name c p2) (tC (.ref D)) := pe_glob hgc hmc rfl hd
  have hr : CallR X (.builtin "isinstance") (fun xs H Q => ∃ a C dx fs b, xs = [.ref a, .ref D] ∧ H a = some (.ins C dx fs) ∧ (C, b) ∈ tab ∧ Q (.bl b) H) := by
    rintro pins s σ H xs us Q I rv ⟨a, C, dx, fs, b, rfl, ea, hb, q⟩
    obtain ⟨u1, u2, rfl, r1, r2⟩ := rv.two
    cases r2
    obtain ⟨ty, hk⟩ := ht _ hb
    exact isinst_ok I r1 (.ins ea ty.cl ty.ha ty.hn ty.htk ty.hm) hk fun tk => ⟨.bl b, H, I.tok tk, rfl, q⟩
  refine PE.imp (pe_callB hr hg hm (by rfl) (pa_cons h (pa_cons hc pa_nil hs2) hs1) (by decide) (by decide) hs1 hpl) fun σ H Q ⟨τ, G, Q2, hs, hg, ht, c⟩ => ?_
  refine ⟨τ, G, _, hs, hg, ht, fun v H1 w G1 t1 s1 r1 h1 => ?_⟩
  cases w <;> first | exact False.elim h1 | skip
  cases r1
  obtain ⟨C, fs, b, e1, hb, q⟩ := h1
  obtain ⟨dx, gs, h2, rel⟩ := s1 _ _ e1
  exact ⟨_, C, dx, gs, b, rfl, h2, hb, c _ H1 _ G1 t1 s1 (.bl b) q⟩

/-! ### a op b op c -/
def uChain (r r' : R22) (ta tb tc : TE2) : TE2 := fun τ G Q => ta τ G fun x G1 => tb τ G1 fun y G2 => r x y G2 fun z G3 => match z with
  | .bl k => if k = true then tc τ G3 fun w' G4 => r' y w' G4 Q else Q (.bl false) G3
  | _ => False
theorem low_chain {K : PySem.W.Frag} {r r' : R22} {ta tb tc : TE2} (σ : St) (H : Hp) (Q : VK) (h : low K (uChain r r' ta tb tc) σ H Q) : tChain (lowR K r) (lowR K r') (low K ta) (low K tb) (low K tc) σ H Q := by
  obtain ⟨τ, G, Q2, hs, hg, ht, hc⟩ := h
  refine ⟨τ, G, _, hs, hg, ht, fun x H1 w G1 t1 s1 r1 h1 => ?_⟩
  refine ⟨τ, G1, _, hs.mono t1, s1, h1, fun y H2 w' G2 t2 s2 r2 h2 => ?_⟩
  refine ⟨w, w', G2, _, s2, r1.mono t2, r2, h2, fun z H3 zw G3 t3 s3 r3 h3 => ?_⟩
  cases zw <;> first | exact False.elim h3 | skip
  cases r3
  rename_i k
  refine ⟨k, rfl, ?_⟩
  have t13 := (t1.trans t2).trans t3
  cases k with
  | false => exact hc _ H3 _ G3 t13 s3 (.bl _) h3
  | true => exact ⟨τ, G3, _, hs.mono t13, s3, h3, fun v4 H4 w4 G4 t4 s4 r4 h4 => ⟨w', w4, G4, Q2, s4, r2.mono (t3.trans t4), r4, h4, hc.mono (t13.trans t4)⟩⟩
section
variable {X : Cx} {a b c : Expr} {ta tb tc : TE2} {pos : Pos}
theorem e_chain {op op' : CmpOp} {r r' : R22} (ho : OpR2 X (compareOp op) r) (ho' : OpR2 X (compareOp op') r') (ha : PE2 X a ta) (hb : PE2 X b tb) (hc : PE2 X c tc)
    (hm : lastMarks [op, op'] [b, c] = false := by with_unfolding_all rfl) : PE2 X (.Compare a [op, op'] [b, c] pos) (uChain r r' ta tb tc) := PE.imp (pe_chain ho ho' ha hb hc hm) low_chain
theorem t_chain {op op' : CmpOp} {r r' : R22} (ho : OpR2 X (compareOp op) r) (ho' : OpR2 X (compareOp op') r') (ha : PE2 X a ta) (hb : PE2 X b tb) (hc : PE2 X c tc)
    (hm : lastMarks [op, op'] [b, c] = false := by with_unfolding_all rfl) : PT2 X (.Compare a [op, op'] [b, c] pos) (uTest (uChain r r' ta tb tc)) := PT.imp (pt_chain ho ho' ha hb hc hm) (low_test low_chain)
end

/-! ### C() without an __init__ -/
structure MkP (K : PySem.W.Frag) (C : Addr) : Prop where
  makes : PySem.W.makesIn K C = true
  init : PySem.W.findIn K (.ref C) "__init__" = some (some (.builtin "object.__init__"))
  kp : PySem.W.keepIn K (.ref C) = true
def uMakeP (C : Addr) : TE2 := fun _ G Q => ∀ x, G x = none → Q (.ref x) (gup G x (.ins C []))
theorem e_makeP {X : Cx} {C : Addr} {x : Str} {p pos : Pos} (M : MkP X.K C) (hg : Gl X x) (hm : X.mg x = some (.ref C)) (hdb : (x == ("__debug__" : Str)) = false := by decide) : PE2 X (.Call (.Name x p) [] [] pos) (uMakeP C) := by
  intro pins s σ H Q I ⟨τ, G, Q2, hs, hgs, ht, hc⟩
  refine wpAny_Call_Name_kw (ld_glob I hg hm ?_ hdb)
  refine PySem.W.callWith_K0 I.kIn M.kp (wpAny_call ?_)
  have I2 := Inv.made (C := C) I
  refine make_map0 I.kIn M.makes M.init (fun self => PySem.W.Looks.of_pure (PySem.W.oi_bind self)) ?_
  have Y := PySem.W.makes_of (M := model X.prog X.w) I.kIn M.makes
  have e2 : ((s.heap.push PySem.W.emptyDict).push (PySem.W.instObj C s.heap.objs.size)).get? (s.heap.objs.size + 1) = some (PySem.W.instObj C s.heap.objs.size) := by
    have := Heap.get?_push_size (s.heap.push PySem.W.emptyDict) (o := PySem.W.instObj C s.heap.objs.size) rfl
    rwa [Heap.size_push] at this
  have t1 : PySem.W.Looks (model X.prog X.w) ((s.heap.push PySem.W.emptyDict).push (PySem.W.instObj C s.heap.objs.size)) (typeOf (.ref (s.heap.objs.size + 1))) (.ref C) := (PySem.W.Looks.ld e2).andThen .now
  have t2 : PySem.W.Looks (model X.prog X.w) ((s.heap.push PySem.W.emptyDict).push (PySem.W.instObj C s.heap.objs.size)) (isInstance (.ref (s.heap.objs.size + 1)) (.type "object")) true := t1.andThen (Y.top.keeps fun b o e => Heap.get?_push_of_some _ (Heap.get?_push_of_some _ e))
  refine codeAny_call_builtin PySem.W.oi_plain PySem.W.entry_oi (@PySem.W.check_slot (model X.prog X.w) _ _ _ "object.__init__" "object" "__init__" (.ref (s.heap.objs.size + 1)) [] [] _ PySem.W.oi_kind PySem.W.oi_split t2 (PySem.W.oi_args (.ref (s.heap.objs.size + 1))) ?_)
  rw [PySem.W.oi_run]
  refine wpAny_pure (And.intro rfl ?_)
  have nd : H s.heap.objs.size = none := I.hok.fresh (Nat.le_refl _)
  have nx : H (s.heap.objs.size + 1) = none := I.hok.fresh (Nat.le_succ _)
  have ne : s.heap.objs.size ≠ s.heap.objs.size + 1 := Nat.ne_of_lt (Nat.lt_succ_self _)
  have nx' : upd H s.heap.objs.size (.own (s.heap.objs.size + 1)) (s.heap.objs.size + 1) = none := by rw [upd_ne (Ne.symm ne)]; exact nx
  have t3 : TX H (upd (upd H s.heap.objs.size (.own (s.heap.objs.size + 1))) (s.heap.objs.size + 1) (.ins C s.heap.objs.size [])) := (TX.fresh nd).trans (.fresh nx')
  exact ⟨.ref (s.heap.objs.size + 1), _, I2, rfl, hc _ _ _ _ t3 ((hgs.fresh nd).laid nx' (.i upd_same .nil)) (.ref _) (ht _ (hgs.no nx))⟩

/-! ### slices -/
abbrev TO2 := St2 → WH → (Option Int → WH → Prop) → Prop
def lowO (K : PySem.W.Frag) (t : TO2) : TO := fun σ H Q => ∃ τ G Q2, SimS K H τ σ ∧ Sim K G H ∧ t τ G Q2 ∧ ∀ o H' G', TX H H' → Sim K G' H' → Q2 o G' → Q o H'
def PO2 (X : Cx) (e : Option Expr) (t : TO2) : Prop := PO X e (lowO X.K t)
def uNoPart : TO2 := fun _ G Q => Q none G
def uPart (t : TE2) : TO2 := fun τ G Q => t τ G fun w G1 => match w with
  | .int i => Q (some i) G1
  | _ => False
def cutW (xs : List W) (lo hi : Option Int) : List W := (xs.drop (HT.sIx xs.length 0 lo)).take (HT.sIx xs.length xs.length hi - HT.sIx xs.length 0 lo)
theorem Reps.cut {K : PySem.W.Frag} {H : Hp} {ws : List W} {vs : List V} (r : Reps K H ws vs) (lo hi : Option Int) : Reps K H (cutW ws lo hi) (cutV vs lo hi) := by
  unfold cutW cutV
  rw [r.length]
  exact (r.drop _).take _
def uSlice (te : TE2) (tl th : TO2) : TE2 := fun τ G Q => te τ G fun w G1 => tl τ G1 fun l G2 => th τ G2 fun u G3 => match w with
  | .scr ws => ∀ p, G3 p = none → Q (.ref p) (gup G3 p (.lst (cutW ws l u)))
  | .ref a => ∃ ws, G3 a = some (.lst ws) ∧ ∀ p, G3 p = none → Q (.ref p) (gup G3 p (.lst (cutW ws l u)))
  | .tup ws => ¬ (HT.sIx ws.length 0 l = 0 ∧ HT.sIx ws.length ws.length u = ws.length) ∧ Q (.tup (cutW ws l u)) G3
  | _ => False
section
variable {X : Cx} {e : Expr} {te : TE2} {lo hi : Option Expr} {tl th : TO2} {pos p2 : Pos}
theorem p_none : PO2 X none uNoPart := fun pins s σ H Q I ⟨τ, G, Q2, hs, hg, ht, hc⟩ => po_none pins s σ H Q I (hc none H G (.refl H) hg ht)
theorem p_some (h : PE2 X e te) : PO2 X (some e) (uPart te) := fun pins s σ H Q I ⟨τ, G, Q2, hs, hg, ht, hc⟩ => po_some h pins s σ H Q I ⟨τ, G, _, hs, hg, ht, fun v H1 w G1 t1 s1 r1 h1 => by
  cases w <;> first | exact False.elim h1 | skip
  cases r1
  exact ⟨_, rfl, hc _ H1 G1 t1 s1 h1⟩⟩
theorem e_slice (he : PE2 X e te) (hl : PO2 X lo tl) (hu : PO2 X hi th) : PE2 X (.Subscript e (.Slice lo hi none p2) pos) (uSlice te tl th) :=
  PE.imp (pe_slice (sl_list.or sl_tup) he hl hu) fun σ H Q ⟨τ, G, Q2, hs, hg, ht, hc⟩ => ⟨τ, G, _, hs, hg, ht, fun v H1 w G1 t1 s1 r1 h1 =>
    ⟨τ, G1, _, hs.mono t1, s1, h1, fun l H2 G2 t2 s2 h2 => ⟨τ, G2, _, hs.mono (t1.trans t2), s2, h2, fun u H3 G3 t3 s3 h3 => by
      have t13 := (t1.trans t2).trans t3
      have r3 := r1.mono (t2.trans t3)
      cases w <;> first | exact False.elim h3 | skip
      case scr ws =>
        cases r3 with
        | scr t r => exact .inl ⟨_, _, rfl, t.sq, fun p hp => hc _ _ _ _ (t13.trans (.fresh hp)) (s3.laid hp (.l upd_same ((r.cut l u).mono (.fresh hp)))) (.ref p) (h3 p (s3.no hp))⟩
      case ref a =>
        cases r3
        obtain ⟨ws, ea, h3⟩ := h3
        obtain ⟨vs, hv, r⟩ := s3 _ _ ea
        exact .inl ⟨_, _, rfl, .of hv, fun p hp => hc _ _ _ _ (t13.trans (.fresh hp)) (s3.laid hp (.l upd_same ((r.cut l u).mono (.fresh hp)))) (.ref p) (h3 p (s3.no hp))⟩
      case tup ws =>
        cases r3 with
        | tup t r =>
          refine .inr ⟨_, _, rfl, t.sq, by rw [← r.length]; exact h3.1, fun p hp => ?_⟩
          exact hc _ _ _ _ (t13.trans (.fresh hp)) (s3.fresh hp) (.tup (.inl upd_same) ((r.cut l u).mono (.fresh hp))) h3.2⟩⟩⟩
end

/-! ### the methods of lists -/
abbrev M22 := W → List W → WH → VK2 → Prop
def isL (G : WH) : W → Prop
  | .ref a => ∃ ws, G a = some (.lst ws)
  | _ => False
def lowM (K : PySem.W.Frag) (r : M22) : V → List V → Hp → VK → Prop := fun x xs H Q => ∃ w ws G Q2, Sim K G H ∧ Rep K H w x ∧ Reps K H ws xs ∧ r w ws G Q2 ∧ Cont K H Q2 Q
def uBm (r : M22) (to : TE2) (t : TA2) : TE2 := fun τ G Q => to τ G fun w G1 => isL G1 w ∧ t τ G1 fun ws G2 => r w ws G2 Q
def uBm0 (r : M22) (to : TE2) : TE2 := fun τ G Q => to τ G fun w G1 => isL G1 w ∧ r w [] G1 Q
theorem isL_ty {K : PySem.W.Frag} {G : WH} {H : Hp} {w : W} {x : V} (S : Sim K G H) (r : Rep K H w x) (h : isL G w) : tyV K "list" x H := by
  cases w <;> first | exact False.elim h | skip
  cases r
  obtain ⟨ws, e⟩ := h
  obtain ⟨vs, hv, _⟩ := S _ _ e
  exact .inl ⟨rfl, vs, .of hv⟩
section
variable {X : Cx} {o e : Expr} {es : List Expr} {to : TE2} {t : TA2} {name : Str} {apos cpos : Pos} {id : String} {r : M22} {rl : V → List V → Hp → VK → Prop}
theorem e_bm (slot : Slot "list" name id) (hty : typeOf (.builtin id) = pure (.type "method_descriptor")) (hm : MtM X id rl) (le : ∀ x xs H Q, lowM X.K r x xs H Q → rl x xs H Q) (ho : PE2 X o to) (ha : PA2 X (e :: es) t)
    (hbase : attributeBase o name X.env (eval o X.env) = eval o X.env := by rfl)
    (hfew : ((backTo cpos (starEach (e :: es) X.env)).all (fun x => !x.1) && (backToKw cpos (keywordEach [] X.env)).all (fun x => x.1.isSome)
      && decide ((e :: es).length + ([] : List Keyword).length + (if ([] : List Keyword).isEmpty then 0 else 1) < 30)) = true := by rfl)
    (hline : (apos.endLine == cpos.line) = true := by rfl) (hs : starEach (e :: es) X.env = (false, eval e X.env) :: starEach es X.env := by rfl) (hplain : (backTo cpos (starEach es X.env)).any (·.1) = false := by rfl) :
    PE2 X (.Call (.Attribute o name apos) (e :: es) [] cpos) (uBm r to t) :=
  PE.imp (pe_bm PySem.F.plainAttrs_list slot hty hm ho ha hbase hfew hline hs hplain) fun σ H Q ⟨τ, G, Q2, hs, hg, ht, hc⟩ => ⟨τ, G, _, hs, hg, ht, fun v H1 w G1 t1 s1 r1 h1 =>
    ⟨isL_ty s1 r1 h1.1, τ, G1, _, hs.mono t1, s1, h1.2, fun vs H2 ws G2 t2 s2 r2 h2 => le _ _ _ _ ⟨w, ws, G2, Q2, s2, r1.mono t2, r2, h2, hc.mono (t1.trans t2)⟩⟩⟩
theorem e_bm0 (slot : Slot "list" name id) (hty : typeOf (.builtin id) = pure (.type "method_descriptor")) (hm : MtM X id rl) (le : ∀ x xs H Q, lowM X.K r x xs H Q → rl x xs H Q) (ho : PE2 X o to)
    (hbase : attributeBase o name X.env (eval o X.env) = eval o X.env := by rfl) (hline : (apos.endLine == cpos.line) = true := by rfl) : PE2 X (.Call (.Attribute o name apos) [] [] cpos) (uBm0 r to) :=
  PE.imp (pe_bm0 PySem.F.plainAttrs_list slot hty hm ho hbase hline) fun σ H Q ⟨τ, G, Q2, hs, hg, ht, hc⟩ => ⟨τ, G, _, hs, hg, ht, fun v H1 w G1 t1 s1 r1 h1 =>
    ⟨isL_ty s1 r1 h1.1, le _ _ _ _ ⟨w, [], G1, Q2, s1, r1, .nil, h1.2, hc.mono t1⟩⟩⟩
end
def m_append : M22 := fun w ws G Q => match w, ws with
  | .ref a, [y] => ∃ xs, G a = some (.lst xs) ∧ xs.length < sizeLine ∧ Q .non (gup G a (.lst (xs ++ [y])))
  | _, _ => False
theorem le_append {K : PySem.W.Frag} (x : V) (xs : List V) (H : Hp) (Q : VK) (h : lowM K m_append x xs H Q) : rAppend x xs H Q := by
  obtain ⟨w, ws, G, Q2, S, r1, r2, q, c⟩ := h
  unfold m_append at q
  split at q
  · obtain ⟨zs, e, hl, q⟩ := q
    obtain ⟨v0, rfl, r0⟩ := r2.un1
    cases r1
    have mu := (S _ _ e).mut
    obtain ⟨vs, hv, rv⟩ := S _ _ e
    refine ⟨_, vs, v0, rfl, rfl, hv, by rw [← rv.length]; exact hl, c _ _ _ _ (.write mu) (S.write mu (.l upd_same ((rv.append (.cons r0 .nil)).mono (.write mu)))) .non q⟩
  · exact False.elim q
def m_clear : M22 := fun w ws G Q => match w, ws with
  | .ref a, [] => (∃ xs, G a = some (.lst xs)) ∧ Q .non (gup G a (.lst []))
  | _, _ => False
theorem le_clear {K : PySem.W.Frag} (x : V) (xs : List V) (H : Hp) (Q : VK) (h : lowM K m_clear x xs H Q) : rClear x xs H Q := by
  obtain ⟨w, ws, G, Q2, S, r1, r2, q, c⟩ := h
  unfold m_clear at q
  split at q
  · obtain ⟨⟨zs, e⟩, q⟩ := q
    cases r2
    cases r1
    have mu := (S _ _ e).mut
    obtain ⟨vs, hv, rv⟩ := S _ _ e
    exact ⟨_, vs, rfl, rfl, hv, c _ _ _ _ (.write mu) (S.write mu (.l upd_same .nil)) .non q⟩
  · exact False.elim q
def m_pop : M22 := fun w ws G Q => match w, ws with
  | .ref a, [] => ∃ xs y, G a = some (.lst xs) ∧ xs[xs.length - 1]? = some y ∧ Q y (gup G a (.lst xs.dropLast))
  | _, _ => False
theorem Reps.dropLast {K : PySem.W.Frag} {H : Hp} {ws : List W} {vs : List V} (r : Reps K H ws vs) : Reps K H ws.dropLast vs.dropLast := by
  rw [List.dropLast_eq_take, List.dropLast_eq_take, r.length]
  exact r.take _
theorem le_pop {K : PySem.W.Frag} (x : V) (xs : List V) (H : Hp) (Q : VK) (h : lowM K m_pop x xs H Q) : rPop x xs H Q := by
  obtain ⟨w, ws, G, Q2, S, r1, r2, q, c⟩ := h
  unfold m_pop at q
  split at q
  · obtain ⟨zs, y, e, hy, q⟩ := q
    cases r2
    cases r1
    have mu := (S _ _ e).mut
    obtain ⟨vs, hv, rv⟩ := S _ _ e
    obtain ⟨yv, hyv, ry⟩ := rv.get hy
    exact ⟨_, vs, yv, rfl, rfl, hv, by rw [← rv.length]; exact hyv, c _ _ _ _ (.write mu) (S.write mu (.l upd_same (rv.dropLast.mono (.write mu)))) (ry.mono (.write mu)) q⟩
  · exact False.elim q
def m_extend : M22 := fun w ws G Q => match w, ws with
  | .ref a, [.ref b] => ∃ xs zs, G a = some (.lst xs) ∧ G b = some (.lst zs) ∧ xs.length + zs.length ≤ sizeLine ∧ Q .non (gup G a (.lst (xs ++ zs)))
  | _, _ => False
theorem le_extend {K : PySem.W.Frag} (x : V) (xs : List V) (H : Hp) (Q : VK) (h : lowM K m_extend x xs H Q) : rExtend x xs H Q := by
  obtain ⟨w, ws, G, Q2, S, r1, r2, q, c⟩ := h
  unfold m_extend at q
  split at q
  · obtain ⟨zs, ys, e, e2, hl, q⟩ := q
    obtain ⟨v0, rfl, r0⟩ := r2.un1
    cases r0
    cases r1
    have mu := (S _ _ e).mut
    obtain ⟨vs, hv, rv⟩ := S _ _ e
    obtain ⟨us, hu, ru⟩ := S _ _ e2
    exact ⟨_, _, vs, us, rfl, rfl, hv, hu, by rw [← rv.length, ← ru.length]; exact hl, c _ _ _ _ (.write mu) (S.write mu (.l upd_same ((rv.append ru).mono (.write mu)))) .non q⟩
  · exact False.elim q
section
variable {X : Cx} {o e : Expr} {to : TE2} {t : TA2} {apos cpos : Pos}
theorem e_m_append (ho : PE2 X o to) (ha : PA2 X [e] t) (hbase : attributeBase o "append" X.env (eval o X.env) = eval o X.env := by rfl)
    (hfew : ((backTo cpos (starEach [e] X.env)).all (fun x => !x.1) && (backToKw cpos (keywordEach [] X.env)).all (fun x => x.1.isSome) && decide (([e] : List Expr).length + ([] : List Keyword).length + (if ([] : List Keyword).isEmpty then 0 else 1) < 30)) = true := by rfl)
    (hline : (apos.endLine == cpos.line) = true := by rfl) (hs : starEach [e] X.env = (false, eval e X.env) :: starEach [] X.env := by rfl) : PE2 X (.Call (.Attribute o "append" apos) [e] [] cpos) (uBm m_append to t) :=
  e_bm PySem.F.slot_list_append PySem.F.type_list_append mt_append le_append ho ha hbase hfew hline hs rfl
theorem e_m_extend (ho : PE2 X o to) (ha : PA2 X [e] t) (hbase : attributeBase o "extend" X.env (eval o X.env) = eval o X.env := by rfl)
    (hfew : ((backTo cpos (starEach [e] X.env)).all (fun x => !x.1) && (backToKw cpos (keywordEach [] X.env)).all (fun x => x.1.isSome) && decide (([e] : List Expr).length + ([] : List Keyword).length + (if ([] : List Keyword).isEmpty then 0 else 1) < 30)) = true := by rfl)
    (hline : (apos.endLine == cpos.line) = true := by rfl) (hs : starEach [e] X.env = (false, eval e X.env) :: starEach [] X.env := by rfl) : PE2 X (.Call (.Attribute o "extend" apos) [e] [] cpos) (uBm m_extend to t) :=
  e_bm PySem.F.slot_list_extend PySem.F.type_list_extend mt_extend le_extend ho ha hbase hfew hline hs rfl
theorem e_m_clear (ho : PE2 X o to) (hbase : attributeBase o "clear" X.env (eval o X.env) = eval o X.env := by rfl) (hline : (apos.endLine == cpos.line) = true := by rfl) : PE2 X (.Call (.Attribute o "clear" apos) [] [] cpos) (uBm0 m_clear to) :=
  e_bm0 PySem.F.slot_list_clear PySem.F.type_list_clear mt_clear le_clear ho hbase hline
theorem e_m_pop (ho : PE2 X o to) (hbase : attributeBase o "pop" X.env (eval o X.env) = eval o X.env := by rfl) (hline : (apos.endLine == cpos.line) = true := by rfl) : PE2 X (.Call (.Attribute o "pop" apos) [] [] cpos) (uBm0 m_pop to) :=
  e_bm0 PySem.F.slot_list_pop PySem.F.type_list_pop mt_pop le_pop ho hbase hline
end

/-! ### d.get(k), d.get(k, x) -/
def isDct (G : WH) : W → Prop
  | .ref a => ∃ t kvs, G a = some (.dct t kvs)
  | _ => False
theorem isDct_low {K : PySem.W.Frag} {G : WH} {H : Hp} {a : Addr} (S : Sim K G H) (h : isDct G (.ref a)) : IsD H a := by
  obtain ⟨t, kvs, e⟩ := h
  have q := S _ _ e
  cases t with
  | false => obtain ⟨ks, h1, _⟩ := q; exact .inl ⟨ks, .inl h1⟩
  | true => obtain ⟨ks, h1, _⟩ := q; exact .inr ⟨ks, .inl h1⟩
def uDGet1 (to ty : TE2) : TE2 := fun τ G Q => to τ G fun w G1 => isDct G1 w ∧ ty τ G1 fun y G2 => match w with
  | .ref a => ∃ t kvs, G2 a = some (.dct t kvs) ∧ isKey t y = true ∧ Q ((lookW kvs y).getD .non) G2
  | _ => False
def uDGet2 (to ty tx : TE2) : TE2 := fun τ G Q => to τ G fun w G1 => isDct G1 w ∧ ty τ G1 fun y G2 => tx τ G2 fun x G3 => match w with
  | .ref a => ∃ t kvs, G3 a = some (.dct t kvs) ∧ isKey t y = true ∧ Q ((lookW kvs y).getD x) G3
  | _ => False
section
variable {X : Cx} {o e f : Expr} {apos cpos : Pos} {to ty tx : TE2}
theorem e_dget1 (hu : X.A.units + 1 < cLine) (ho : PE2 X o to) (he : PE2 X e ty) (m : M1 X o "get" apos e cpos := by exact ⟨rfl, rfl, rfl, rfl⟩) : PE2 X (.Call (.Attribute o "get" apos) [e] [] cpos) (uDGet1 to ty) :=
  PE.imp (pe_dget1 hu ho he m) fun σ H Q ⟨τ, G, Q2, hs, hg, ht, hc⟩ => ⟨τ, G, _, hs, hg, ht, fun v H1 w G1 t1 s1 r1 h1 => by
    obtain ⟨hd, h1⟩ := h1
    cases w <;> first | exact False.elim hd | skip
    cases r1
    refine ⟨_, rfl, isDct_low s1 hd, τ, G1, _, hs.mono t1, s1, h1, fun y H2 yw G2 t2 s2 r2 h2 => ?_⟩
    obtain ⟨t, kvs, ea, hk, q⟩ := h2
    obtain ⟨o, g, hh⟩ := dget_of s2 ea hk r2
    refine ⟨o, g, ?_⟩
    rcases hh with ⟨z, zv, e1, rfl, rz⟩ | ⟨e1, rfl⟩
    · rw [e1] at q; exact hc _ H2 _ G2 (t1.trans t2) s2 rz q
    · rw [e1] at q; exact hc _ H2 _ G2 (t1.trans t2) s2 .non q⟩
theorem e_dget2 (hu : X.A.units + 1 < cLine) (ho : PE2 X o to) (he : PE2 X e ty) (hf : PE2 X f tx) (m : M2 X o "get" apos e f cpos := by exact ⟨rfl, rfl, rfl, rfl⟩) : PE2 X (.Call (.Attribute o "get" apos) [e, f] [] cpos) (uDGet2 to ty tx) :=
  PE.imp (pe_dget2 hu ho he hf m) fun σ H Q ⟨τ, G, Q2, hs, hg, ht, hc⟩ => ⟨τ, G, _, hs, hg, ht, fun v H1 w G1 t1 s1 r1 h1 => by
    obtain ⟨hd, h1⟩ := h1
    cases w <;> first | exact False.elim hd | skip
    cases r1
    refine ⟨_, rfl, isDct_low s1 hd, τ, G1, _, hs.mono t1, s1, h1, fun y H2 yw G2 t2 s2 r2 h2 => ?_⟩
    refine ⟨τ, G2, _, hs.mono (t1.trans t2), s2, h2, fun x H3 xw G3 t3 s3 r3 h3 => ?_⟩
    obtain ⟨t, kvs, ea, hk, q⟩ := h3
    obtain ⟨o, g, hh⟩ := dget_of s3 ea hk (r2.mono t3)
    have t13 := (t1.trans t2).trans t3
    refine ⟨o, g, ?_⟩
    rcases hh with ⟨z, zv, e1, rfl, rz⟩ | ⟨e1, rfl⟩
    · rw [e1] at q; exact hc _ H3 _ G3 t13 s3 rz q
    · rw [e1] at q; exact hc _ H3 _ G3 t13 s3 r3 q⟩
end

/-! ### -e -/
def uNeg (ta : TE2) : TE2 := fun τ G Q => ta τ G fun x G1 => match x with
  | .int i => Q (.int (-i)) G1
  | _ => False
theorem e_neg {X : Cx} {a : Expr} {ta : TE2} {pos : Pos} (ha : PE2 X a ta) : PE2 X (.UnaryOp .USub a pos) (uNeg ta) :=
  PE.imp (pe_un un_neg ha) fun σ H Q ⟨τ, G, Q2, hs, hg, ht, hc⟩ => ⟨τ, G, _, hs, hg, ht, fun v H1 w G1 t1 s1 r1 h1 => by
    cases w <;> first | exact False.elim h1 | skip
    cases r1
    exact ⟨_, rfl, hc _ H1 _ G1 t1 s1 (.int _) h1⟩⟩

/-! ### a def that nobody may call -/
section
variable {P : Program} {w : World} {K : PySem.W.Frag} {mg : Str → Option Value} {base : Heap}
theorem fun_ok0 {x qual : Str} {st : Stmt} {f : Addr} {fd : FuncData} {N ps : List Str} {k : Nat} {sp : Sp2} (F : Fun K x qual st f fd) (S : FnScope N ps (defScope st)) (no : ∀ ws G Q E, ¬ sp ws G Q E) : FnOk P w K mg base CX0 (k + 1) f fd ps (lowSp K sp) :=
  fun_ok2 F S (fun ws G Q E h => absurd h (no ws G Q E)) fun cdv A outer s H E hr ws G Q E2 h => absurd h (no ws G Q E2)
end
end L3

set_option Elab.async false
set_option linter.all false
set_option maxRecDepth 100000
namespace L3
open PySem PySem.Spec L2
open PyProof.Rows hiding St

/-! ### heaps that grow -/
def Ext (G G' : WH) : Prop := ∀ b u, G b = some u → G' b = some u
theorem Ext.refl (G : WH) : Ext G G := fun _ _ e => e
theorem Ext.trans {G G1 G2 : WH} (a : Ext G G1) (b : Ext G1 G2) : Ext G G2 := fun c u e => b c u (a c u e)
theorem Ext.new {G : WH} {p : Addr} {o : WO} (h : G p = none) : Ext G (gup G p o) := fun b u e => gk e h
theorem gup_gup {G : WH} {a : Addr} {o u : WO} : gup (gup G a o) a u = gup G a u := by funext b; unfold gup; split <;> rfl
theorem Ext.less {G G' : WH} {Q : VK2} {w : W} (e : Ext G G') (q : Q w G) : Less Q w G' := ⟨G, e, q⟩
theorem Ext.none {G G' : WH} (e : Ext G G') {p : Addr} (h : G' p = none) : G p = none := by
  cases q : G p with
  | none => rfl
  | some u => rw [e p u q] at h; cases h
/-- a write at a list leaves what is no list -/
theorem gup_keep {G : WH} {a b : Addr} {o u v : WO} (h : G a = some o) (hb : G b = some u) (d : u ≠ o) : gup G a v b = some u := by
  rw [gup_ne (fun z => d (by rw [z, h] at hb; exact (Option.some.inj hb).symm))]; exact hb

/-! ### ands and ors -/
theorem andv {c d : Bool} {R : Bool → Prop} {X : Prop} (q : R (c && d)) (h : R d → X) : if c = true then X else R false := by
  cases c with
  | true => exact iteT (h q)
  | false => exact iteF q
theorem orv {c d : Bool} {R : Bool → Prop} {X : Prop} (q : R (c || d)) (h : R d → X) : if c = true then R true else X := by
  cases c with
  | true => exact iteT q
  | false => exact iteF (h q)
theorem ifd {c : Prop} [Decidable c] {A B : Prop} (h1 : c → A) (h2 : ¬ c → B) : if decide c = true then A else B := by
  by_cases h : c
  · rw [if_pos (decide_eq_true h)]; exact h1 h
  · rw [if_neg (by simpa using h)]; exact h2 h
theorem ifb {c : Bool} {A B : Prop} (h1 : c = true → A) (h2 : c = false → B) : if c = true then A else B := by
  cases c with
  | true => exact iteT (h1 rfl)
  | false => exact iteF (h2 rfl)

/-! ### == -/
theorem eqv {neg : Bool} {x y d e : W} {G : WH} {Q : VK2} (h1 : Den G x d) (h2 : Den G y e) (hd : Dep 40 d) (q : Q (.bl (if neg then !eqD d e else eqD d e)) G) : eq2 neg x y G Q := ⟨d, e, h1, h2, hd, q⟩
theorem eq_i {neg : Bool} {i j : Int} {G : WH} {Q : VK2} (q : Q (.bl (if neg then !(i == j) else i == j)) G) : eq2 neg (.int i) (.int j) G Q := ⟨_, _, .int i, .int j, dep_int, q⟩
theorem eq_s {neg : Bool} {i j : Str} {G : WH} {Q : VK2} (q : Q (.bl (if neg then !(i == j) else i == j)) G) : eq2 neg (.str i) (.str j) G Q := ⟨_, _, .str i, .str j, dep_str, q⟩
theorem ifeq {i j : Int} {A B : Prop} (h1 : i = j → A) (h2 : i ≠ j → B) : if (i == j) = true then A else B := by
  by_cases h : i = j
  · subst h; rw [if_pos (by simp)]; exact h1 rfl
  · rw [if_neg (by simpa using h)]; exact h2 h
/-- a cell -/
def cw (c : Int × Int) : W := .tup [.int c.1, .int c.2]
theorem den_cw {G : WH} {c : Int × Int} : Den G (cw c) (cw c) := .tup (.cons (.int _) (.cons (.int _) .nil))
theorem dep_cw {n : Nat} {c : Int × Int} : Dep (n + 1) (cw c) := dep_ints (is := [c.1, c.2])
theorem cw_inj {a b : Int × Int} (h : cw a = cw b) : a = b := by
  unfold cw at h
  injection h with h
  injection h with h1 h2
  injection h2 with h2 _
  injection h1 with h1
  injection h2 with h2
  exact Prod.ext h1 h2
theorem sz {n : Nat} (h : n ≤ 1000) : n ≤ sizeLine := Nat.le_trans h (by decide)
theorem sz' {n : Nat} (h : n < 1000) : n < sizeLine := Nat.lt_of_lt_of_le h (by decide)
/-- reading a list of the heap or the script -/
def cellAt (ns : List Int) (k : Nat) : Int := (ns[k]?).getD 0
end L3

set_option Elab.async false
set_option linter.all false
set_option maxRecDepth 100000
set_option maxHeartbeats 1000000
namespace My
open PySem PySem.Spec L2 L3
open PyProof.Rows hiding St
/-- the addresses that the text's head writes -/
structure Adr where
  f_Box_has : Addr
  d_Box_has : FuncData
  f_Everywhere_has : Addr
  d_Everywhere_has : FuncData
  f_Both_has : Addr
  d_Both_has : FuncData
  f_Either_has : Addr
  d_Either_has : FuncData
  f_Outside_has : Addr
  d_Outside_has : FuncData
  f_Both_init : Addr
  d_Both_init : FuncData
  f_Box_init : Addr
  d_Box_init : FuncData
  f_Either_init : Addr
  d_Either_init : FuncData
  f_Outside_init : Addr
  d_Outside_init : FuncData
  f_law_area : Addr
  d_law_area : FuncData
  f_law_cell_at : Addr
  d_law_cell_at : FuncData
  f_law_corners : Addr
  d_law_corners : FuncData
  f_law_has : Addr
  d_law_has : FuncData
  f_law_number : Addr
  d_law_number : FuncData
  f_law_leaf : Addr
  d_law_leaf : FuncData
  f_law_tree : Addr
  d_law_tree : FuncData
  f_law : Addr
  d_law : FuncData
  c_Area : Addr
  c_Both : Addr
  c_Box : Addr
  c_Either : Addr
  c_Everywhere : Addr
  c_Outside : Addr
def tab_Area (A : Adr) : List (Addr × Bool) := [(A.c_Both, true), (A.c_Box, true), (A.c_Either, true), (A.c_Everywhere, true), (A.c_Outside, true)]
/-- an area as a tree -/
inductive Ar where
  | all | box (t l b r : Int) | both (x y : Ar) | either (x y : Ar) | out (x : Ar)
def Ar.w : Ar → W
  | .all => .tup [.str "everywhere"]
  | .box t l b r => .tup [.str "box", .int t, .int l, .int b, .int r]
  | .both x y => .tup [.str "both", x.w, y.w]
  | .either x y => .tup [.str "either", x.w, y.w]
  | .out x => .tup [.str "outside", x.w]
def Ar.has (r c : Int) : Ar → Bool
  | .all => true
  | .box t l b q => decide (t ≤ r) && (decide (r ≤ b) && (decide (l ≤ c) && decide (c ≤ q)))
  | .both x y => x.has r c && y.has r c
  | .either x y => x.has r c || y.has r c
  | .out x => !x.has r c
def Ar.dep : Ar → Nat
  | .all => 1
  | .box _ _ _ _ => 1
  | .both x y => max x.dep y.dep + 1
  | .either x y => max x.dep y.dep + 1
  | .out x => x.dep + 1
def Ar.leaves : Ar → Nat
  | .all => 1
  | .box _ _ _ _ => 1
  | .both x y => x.leaves + y.leaves
  | .either x y => x.leaves + y.leaves
  | .out x => x.leaves
def IsAr (A : Adr) (G : WH) : Ar → Addr → Prop
  | .all, a => G a = some (.ins A.c_Everywhere [])
  | .box t l b r, a => G a = some (.ins A.c_Box [("top", .int t), ("left", .int l), ("bottom", .int b), ("right", .int r)])
  | .both x y, a => ∃ p q, G a = some (.ins A.c_Both [("one", .ref p), ("other", .ref q)]) ∧ IsAr A G x p ∧ IsAr A G y q
  | .either x y, a => ∃ p q, G a = some (.ins A.c_Either [("one", .ref p), ("other", .ref q)]) ∧ IsAr A G x p ∧ IsAr A G y q
  | .out x, a => ∃ p, G a = some (.ins A.c_Outside [("one", .ref p)]) ∧ IsAr A G x p
def sp_Box_has (A : Adr) : Sp2 := fun ws G Q _ => ∃ a t l b r x y, ws = [.ref a, .tup [.int x, .int y]] ∧ IsAr A G (.box t l b r) a ∧ Q (.bl ((Ar.box t l b r).has x y)) G
def sp_Everywhere_has (_ : Adr) : Sp2 := fun ws G Q _ => ∃ a x y, ws = [.ref a, .tup [.int x, .int y]] ∧ Q (.bl true) G
def sp_Both_has (A : Adr) (n : Nat) : Sp2 := fun ws G Q _ => ∃ a p q x y, ws = [.ref a, .tup [.int x, .int y]] ∧ IsAr A G (.both p q) a ∧ (Ar.both p q).dep ≤ n ∧ Q (.bl ((Ar.both p q).has x y)) G
def sp_Either_has (A : Adr) (n : Nat) : Sp2 := fun ws G Q _ => ∃ a p q x y, ws = [.ref a, .tup [.int x, .int y]] ∧ IsAr A G (.either p q) a ∧ (Ar.either p q).dep ≤ n ∧ Q (.bl ((Ar.either p q).has x y)) G
def sp_Outside_has (A : Adr) (n : Nat) : Sp2 := fun ws G Q _ => ∃ a p x y, ws = [.ref a, .tup [.int x, .int y]] ∧ IsAr A G (.out p) a ∧ (Ar.out p).dep ≤ n ∧ Q (.bl ((Ar.out p).has x y)) G
def sp_Both_init (A : Adr) : Sp2 := fun ws G Q _ => ∃ a u v, ws = [.ref a, u, v] ∧ G a = some (.ins A.c_Both []) ∧ Q .non (gup G a (.ins A.c_Both [("one", u), ("other", v)]))
def sp_Either_init (A : Adr) : Sp2 := fun ws G Q _ => ∃ a u v, ws = [.ref a, u, v] ∧ G a = some (.ins A.c_Either []) ∧ Q .non (gup G a (.ins A.c_Either [("one", u), ("other", v)]))
def sp_Outside_init (A : Adr) : Sp2 := fun ws G Q _ => ∃ a u, ws = [.ref a, u] ∧ G a = some (.ins A.c_Outside []) ∧ Q .non (gup G a (.ins A.c_Outside [("one", u)]))
def sp_Box_init (A : Adr) : Sp2 := fun ws G Q _ => ∃ a t l b r, ws = [.ref a, t, l, b, r] ∧ G a = some (.ins A.c_Box []) ∧ Q .non (gup G a (.ins A.c_Box [("top", t), ("left", l), ("bottom", b), ("right", r)]))
def sp_law_area (A : Adr) (n : Nat) : Sp2 := fun ws G Q _ => ∃ ar : Ar, ws = [ar.w] ∧ ar.dep ≤ n ∧ ∀ a G', Ext G G' → IsAr A G' ar a → Q (.ref a) G'
def sp_law_has (_ : Adr) (n : Nat) : Sp2 := fun ws G Q _ => ∃ (ar : Ar) (x y : Int), ws = [ar.w, .tup [.int x, .int y]] ∧ ar.dep ≤ n ∧ Q (.bl (ar.has x y)) G
def sp_law_corners (_ : Adr) (n : Nat) : Sp2 := fun ws G Q _ => ∃ ar : Ar, ws = [ar.w] ∧ ar.dep ≤ n ∧ ar.leaves ≤ 100 ∧ ∀ (cs : List (Int × Int)) p G', Ext G G' → G' p = some (.lst (cs.map cw)) → cs.length ≤ 2 * ar.leaves → Q (.ref p) G'
def sp_law_cell_at (_ : Adr) : Sp2 := fun ws G Q _ => ∃ (w : W) (ns : List Int) (k : Nat), ws = [w, .int k] ∧ (w = .scr (ns.map .int) ∨ ∃ a, w = .ref a ∧ G a = some (.lst (ns.map .int))) ∧ Q (.int (cellAt ns k)) G
def sp_law_number (_ : Adr) : Sp2 := fun ws G Q _ => ∃ x : Int, ws = [.int x] ∧ ∀ y : Int, Q (.int y) G
def IsLeaf (ar : Ar) : Prop := ar = .all ∨ ∃ t l b r, ar = .box t l b r
def sp_law_leaf (_ : Adr) : Sp2 := fun ws G Q _ => ∃ x : Int, ws = [.int x] ∧ ∀ ar : Ar, IsLeaf ar → Q ar.w G
def sp_law_tree (_ : Adr) : Sp2 := fun ws G Q _ => ∃ (a : Addr) (ns : List Int), ws = [.ref a] ∧ G a = some (.lst (ns.map .int)) ∧ ns.length ≤ 63 ∧ ∀ ar : Ar, ar.dep ≤ 12 → ar.leaves ≤ 12 → Q ar.w G
def sp_law0 : Sp2 := fun ws G Q _ => ∃ ns : List Int, ws = [.scr (ns.map .int)] ∧ ns.length ≤ 63 ∧ ∀ G', Q (.bl true) G'
def sp_law (_ : Adr) : Sp2 := sp_law0
def md_has (A : Adr) (n : Nat) (o : TE2) (t : TA2) : TE2 :=
  (uAlt (uMeth A.c_Everywhere "has" (sp_Everywhere_has A) o t) (uAlt (uMeth A.c_Box "has" (sp_Box_has A) o t) (uAlt (uMeth A.c_Both "has" (sp_Both_has A n) o t) (uAlt (uMeth A.c_Either "has" (sp_Either_has A n) o t) (uMeth A.c_Outside "has" (sp_Outside_has A n) o t)))))
def rd_Box_has (A : Adr) : TS2 :=
  (uRet (uAndV (uOp iLe (uFld A.c_Box "top" (uVar 0)) (uOp ix2 (uVar 1) (uC (.int 0)))) (uAndV (uOp iLe (uOp ix2 (uVar 1) (uC (.int 0))) (uFld A.c_Box "bottom" (uVar 0))) (uAndV (uOp iLe (uFld A.c_Box "left" (uVar 0)) (uOp ix2 (uVar 1) (uC (.int 1)))) (uOp iLe (uOp ix2 (uVar 1) (uC (.int 1))) (uFld A.c_Box "right" (uVar 0)))))))
def rd_Everywhere_has (A : Adr) : TS2 :=
  (uRet (uC (.bl true)))
def rd_Both_has (A : Adr) (n : Nat) : TS2 :=
  (uRet (uAndV (md_has A n (uFld A.c_Both "one" (uVar 0)) (uCons (uVar 1) uNil)) (md_has A n (uFld A.c_Both "other" (uVar 0)) (uCons (uVar 1) uNil))))
def rd_Either_has (A : Adr) (n : Nat) : TS2 :=
  (uRet (uOrV (md_has A n (uFld A.c_Either "one" (uVar 0)) (uCons (uVar 1) uNil)) (md_has A n (uFld A.c_Either "other" (uVar 0)) (uCons (uVar 1) uNil))))
def rd_Outside_has (A : Adr) (n : Nat) : TS2 :=
  (uRet (uNotV (md_has A n (uFld A.c_Outside "one" (uVar 0)) (uCons (uVar 1) uNil))))
def rd_Both_init_1 (A : Adr) : TS2 :=
  (uSFld A.c_Both "other" (uVar 0) (uVar 2))
def rd_Both_init (A : Adr) : TS2 :=
  (uSeq (uSFld A.c_Both "one" (uVar 0) (uVar 1)) (rd_Both_init_1 A))
def rd_Box_init_1 (A : Adr) : TS2 :=
  (uSFld A.c_Box "right" (uVar 0) (uVar 4))
def rd_Box_init_2 (A : Adr) : TS2 :=
  (uSeq (uSFld A.c_Box "bottom" (uVar 0) (uVar 3)) (rd_Box_init_1 A))
def rd_Box_init_3 (A : Adr) : TS2 :=
  (uSeq (uSFld A.c_Box "left" (uVar 0) (uVar 2)) (rd_Box_init_2 A))
def rd_Box_init (A : Adr) : TS2 :=
  (uSeq (uSFld A.c_Box "top" (uVar 0) (uVar 1)) (rd_Box_init_3 A))
def rd_Either_init_1 (A : Adr) : TS2 :=
  (uSFld A.c_Either "other" (uVar 0) (uVar 2))
def rd_Either_init (A : Adr) : TS2 :=
  (uSeq (uSFld A.c_Either "one" (uVar 0) (uVar 1)) (rd_Either_init_1 A))
def rd_Outside_init (A : Adr) : TS2 :=
  (uSFld A.c_Outside "one" (uVar 0) (uVar 1))
def rd_law_area_1 (A : Adr) (n : Nat) : TS2 :=
  (uSeq (uIfS (uTest (uOp (eq2 false) (uOp ix2 (uVar 0) (uC (.int 0))) (uC (.str "both"))))
  (uRet (uMake A.c_Both (sp_Both_init A) (uCons (uCall (sp_law_area A n) [] (uCons (uOp ix2 (uVar 0) (uC (.int 1))) uNil)) (uCons (uCall (sp_law_area A n) [] (uCons (uOp ix2 (uVar 0) (uC (.int 2))) uNil)) uNil)))) uNext)
  (uRet (uMake A.c_Either (sp_Either_init A) (uCons (uCall (sp_law_area A n) [] (uCons (uOp ix2 (uVar 0) (uC (.int 1))) uNil)) (uCons (uCall (sp_law_area A n) [] (uCons (uOp ix2 (uVar 0) (uC (.int 2))) uNil)) uNil)))))
def rd_law_area_2 (A : Adr) (n : Nat) : TS2 :=
  (uSeq (uIfS (uTest (uOp (eq2 false) (uOp ix2 (uVar 0) (uC (.int 0))) (uC (.str "outside"))))
  (uRet (uMake A.c_Outside (sp_Outside_init A) (uCons (uCall (sp_law_area A n) [] (uCons (uOp ix2 (uVar 0) (uC (.int 1))) uNil)) uNil))) uNext) (rd_law_area_1 A n))
def rd_law_area_3 (A : Adr) (n : Nat) : TS2 :=
  (uSeq (uIfS (uTest (uOp (eq2 false) (uOp ix2 (uVar 0) (uC (.int 0))) (uC (.str "box"))))
  (uRet (uMake A.c_Box (sp_Box_init A) (uCons (uOp ix2 (uVar 0) (uC (.int 1))) (uCons (uOp ix2 (uVar 0) (uC (.int 2))) (uCons (uOp ix2 (uVar 0) (uC (.int 3))) (uCons (uOp ix2 (uVar 0) (uC (.int 4))) uNil)))))) uNext) (rd_law_area_2 A n))
def rd_law_area (A : Adr) (n : Nat) : TS2 :=
  (uSeq (uIfS (uTest (uOp (eq2 false) (uOp ix2 (uVar 0) (uC (.int 0))) (uC (.str "everywhere"))))
  (uRet (uMakeP A.c_Everywhere)) uNext) (rd_law_area_3 A n))
def rd_law_cell_at (A : Adr) : TS2 :=
  (uSeq (uIfS (uTest (uOp iLt (uVar 1) (uBlt b_len (uCons (uVar 0) uNil)))) (uRet (uOp ix2 (uVar 0) (uVar 1))) uNext) (uRet (uC (.int 0))))
def rd_law_corners_1 (A : Adr) (n : Nat) : TS2 :=
  (uSeq (uIfS (uTest (uOp (eq2 false) (uBlt b_len (uCons (uVar 0) uNil)) (uC (.int 3))))
  (uRet (uOp add2 (uCall (sp_law_corners A n) [] (uCons (uOp ix2 (uVar 0) (uC (.int 1))) uNil)) (uCall (sp_law_corners A n) [] (uCons (uOp ix2 (uVar 0) (uC (.int 2))) uNil)))) uNext)
  (uRet (uLst (uCons (uTup (uCons (uC (.int 0)) (uCons (uC (.int 0)) uNil))) uNil))))
def rd_law_corners_2 (A : Adr) (n : Nat) : TS2 :=
  (uSeq (uIfS (uTest (uOp (eq2 false) (uOp ix2 (uVar 0) (uC (.int 0))) (uC (.str "outside"))))
  (uRet (uCall (sp_law_corners A n) [] (uCons (uOp ix2 (uVar 0) (uC (.int 1))) uNil))) uNext) (rd_law_corners_1 A n))
def rd_law_corners (A : Adr) (n : Nat) : TS2 :=
  (uSeq (uIfS (uTest (uOp (eq2 false) (uOp ix2 (uVar 0) (uC (.int 0))) (uC (.str "box"))))
  (uRet (uLst (uCons (uTup (uCons (uOp ix2 (uVar 0) (uC (.int 1))) (uCons (uOp ix2 (uVar 0) (uC (.int 2))) uNil))) (uCons (uTup (uCons (uOp ix2 (uVar 0) (uC (.int 3))) (uCons (uOp ix2 (uVar 0) (uC (.int 4))) uNil))) uNil)))) uNext) (rd_law_corners_2 A n))
def rd_law_has_1 (A : Adr) (n : Nat) : TS2 :=
  (uSeq (uIfS (uTest (uOp (eq2 false) (uOp ix2 (uVar 0) (uC (.int 0))) (uC (.str "both"))))
  (uRet (uAndV (uCall (sp_law_has A n) [] (uCons (uOp ix2 (uVar 0) (uC (.int 1))) (uCons (uVar 1) uNil))) (uCall (sp_law_has A n) [] (uCons (uOp ix2 (uVar 0) (uC (.int 2))) (uCons (uVar 1) uNil))))) uNext)
  (uRet (uOrV (uCall (sp_law_has A n) [] (uCons (uOp ix2 (uVar 0) (uC (.int 1))) (uCons (uVar 1) uNil))) (uCall (sp_law_has A n) [] (uCons (uOp ix2 (uVar 0) (uC (.int 2))) (uCons (uVar 1) uNil))))))
def rd_law_has_2 (A : Adr) (n : Nat) : TS2 :=
  (uSeq (uIfS (uTest (uOp (eq2 false) (uOp ix2 (uVar 0) (uC (.int 0))) (uC (.str "outside"))))
  (uRet (uNotV (uCall (sp_law_has A n) [] (uCons (uOp ix2 (uVar 0) (uC (.int 1))) (uCons (uVar 1) uNil))))) uNext) (rd_law_has_1 A n))
def rd_law_has_3 (A : Adr) (n : Nat) : TS2 :=
  (uSeq (uIfS (uTest (uOp (eq2 false) (uOp ix2 (uVar 0) (uC (.int 0))) (uC (.str "box"))))
  (uRet (uAndV (uChain iLe iLe (uOp ix2 (uVar 0) (uC (.int 1))) (uOp ix2 (uVar 1) (uC (.int 0))) (uOp ix2 (uVar 0) (uC (.int 3)))) (uChain iLe iLe (uOp ix2 (uVar 0) (uC (.int 2))) (uOp ix2 (uVar 1) (uC (.int 1))) (uOp ix2 (uVar 0) (uC (.int 4)))))) uNext) (rd_law_has_2 A n))
def rd_law_has (A : Adr) (n : Nat) : TS2 :=
  (uSeq (uIfS (uTest (uOp (eq2 false) (uOp ix2 (uVar 0) (uC (.int 0))) (uC (.str "everywhere"))))
  (uRet (uC (.bl true))) uNext) (rd_law_has_3 A n))
def rd_law_number (A : Adr) : TS2 :=
  (uSeq (uIfS (uTest (uOp (eq2 false) (uOp iMod (uVar 0) (uC (.int 5))) (uC (.int 1))))
  (uRet (uOp iSub (uOp iMod (uOp iDiv (uVar 0) (uC (.int 5))) (uOp iPow (uC (.int 10)) (uC (.int 30)))) (uOp mul2 (uC (.int 5)) (uOp iPow (uC (.int 10)) (uC (.int 29)))))) uNext)
  (uRet (uOp iSub (uOp iMod (uOp iDiv (uVar 0) (uC (.int 5))) (uC (.int 9))) (uC (.int 4)))))
def rd_law_leaf_1 (A : Adr) : TS2 :=
  (uSeq (uAsg (uCall (sp_law_number A) [] (uCons (uOp iDiv (uVar 0) (uC (.int 315))) uNil)) (uName 2))
  (uRet (uTup (uCons (uC (.str "box")) (uCons (uVar 1) (uCons (uVar 2) (uCons (uOp iSub (uOp add2 (uVar 1) (uOp iMod (uOp iDiv (uVar 0) (uC (.int 14))) (uC (.int 6)))) (uC (.int 1))) (uCons (uOp iSub (uOp add2 (uVar 2) (uOp iMod (uOp iDiv (uVar 0) (uC (.int 84))) (uC (.int 6)))) (uC (.int 1))) uNil))))))))
def rd_law_leaf_2 (A : Adr) : TS2 :=
  (uSeq (uAsg (uCall (sp_law_number A) [] (uCons (uOp iDiv (uVar 0) (uC (.int 7))) uNil)) (uName 1)) (rd_law_leaf_1 A))
def rd_law_leaf (A : Adr) : TS2 :=
  (uSeq (uIfS (uTest (uOp (eq2 false) (uOp iMod (uVar 0) (uC (.int 7))) (uC (.int 0))))
  (uRet (uTup (uCons (uC (.str "everywhere")) uNil))) uNext) (rd_law_leaf_2 A))
def rd_law_tree_1 (A : Adr) : TS2 :=
  (uIfS (uTest (uOp (eq2 false) (uOp iMod (uVar 2) (uC (.int 4))) (uC (.int 0))))
  (uAsg (uTup (uCons (uC (.str "outside")) (uCons (uVar 1) uNil))) (uName 1))
  (uIfS (uTest (uOp (eq2 false) (uOp iMod (uVar 2) (uC (.int 4))) (uC (.int 3))))
  (uAsg (uTup (uCons (uC (.str "both")) (uCons (uOp ix2 (uLst (uCons (uVar 1) (uCons (uVar 3) uNil))) (uOp iMod (uOp iDiv (uVar 2) (uC (.int 4))) (uC (.int 2)))) (uCons (uOp ix2 (uLst (uCons (uVar 3) (uCons (uVar 1) uNil))) (uOp iMod (uOp iDiv (uVar 2) (uC (.int 4))) (uC (.int 2)))) uNil)))) (uName 1))
  (uAsg (uTup (uCons (uC (.str "either")) (uCons (uOp ix2 (uLst (uCons (uVar 1) (uCons (uVar 3) uNil))) (uOp iMod (uOp iDiv (uVar 2) (uC (.int 4))) (uC (.int 2)))) (uCons (uOp ix2 (uLst (uCons (uVar 3) (uCons (uVar 1) uNil))) (uOp iMod (uOp iDiv (uVar 2) (uC (.int 4))) (uC (.int 2)))) uNil)))) (uName 1))))
def rd_law_tree_2 (A : Adr) : TS2 :=
  (uSeq (uAsg (uCall (sp_law_leaf A) [] (uCons (uOp iDiv (uVar 2) (uC (.int 4))) uNil)) (uName 3)) (rd_law_tree_1 A))
def rd_law_tree_3 (A : Adr) : TS2 :=
  (uSeq (uFor (uSlice (uVar 0) (uPart (uC (.int 1))) (uPart (uC (.int 12)))) (uName 2) (rd_law_tree_2 A)) (uRet (uVar 1)))
def rd_law_tree (A : Adr) : TS2 :=
  (uSeq
  (uAsg (uCall (sp_law_leaf A) [] (uCons (uCall (sp_law_cell_at A) [] (uCons (uVar 0) (uCons (uC (.int 0)) uNil))) uNil)) (uName 1)) (rd_law_tree_3 A))
def rd_law_1 (A : Adr) : TS2 :=
  (uIfS (uOr (uNot (uTest (uIsI "bool" (md_has A 16 (uVar 2) (uCons (uVar 7) uNil))))) (uTest (uOp (eq2 true) (md_has A 16 (uVar 2) (uCons (uVar 7) uNil)) (uCall (sp_law_has A 16) [] (uCons (uVar 1) (uCons (uVar 7) uNil))))))
  (uRet (uC (.bl false))) uNext)
def rd_law_2 (A : Adr) : TS2 :=
  (uSeq (uFor (uVar 3) (uName 7) (rd_law_1 A)) (uRet (uC (.bl true))))
def rd_law_3 (A : Adr) : TS2 :=
  (uDrop (uBm m_append (uVar 3) (uCons (uTup (uCons (uCall (sp_law_number A) [] (uCons (uCall (sp_law_cell_at A) [] (uCons (uVar 0) (uCons (uVar 6) uNil))) uNil)) (uCons (uCall (sp_law_number A) [] (uCons (uCall (sp_law_cell_at A) [] (uCons (uVar 0) (uCons (uOp add2 (uVar 6) (uC (.int 6))) uNil))) uNil)) uNil))) uNil)))
def rd_law_4 (A : Adr) : TS2 :=
  (uSeq (uForR2 (uCons (uC (.int 13)) (uCons (uC (.int 19)) uNil)) (uName 6) (rd_law_3 A)) (rd_law_2 A))
def rd_law_5 (A : Adr) : TS2 :=
  (uAsg (uOp add2 (uVar 3) (uLst (uCons (uTup (uCons (uVar 4) (uCons (uVar 5) uNil))) (uCons (uTup (uCons (uOp iSub (uVar 4) (uC (.int 1))) (uCons (uVar 5) uNil))) (uCons (uTup (uCons (uOp add2 (uVar 4) (uC (.int 1))) (uCons (uVar 5) uNil))) (uCons (uTup (uCons (uVar 4) (uCons (uOp iSub (uVar 5) (uC (.int 1))) uNil))) (uCons (uTup (uCons (uVar 4) (uCons (uOp add2 (uVar 5) (uC (.int 1))) uNil))) uNil))))))) (uName 3))
def rd_law_6 (A : Adr) : TS2 :=
  (uSeq
  (uFor (uCall (sp_law_corners A 16) [] (uCons (uVar 1) uNil)) (uGTup 2 (uGCons (uName 4) (uGCons (uName 5) uGNil))) (rd_law_5 A)) (rd_law_4 A))
def rd_law_7 (A : Adr) : TS2 :=
  (uSeq
  (uAsg (uLst (uCons (uTup (uCons (uC (.int 0)) (uCons (uC (.int 0)) uNil))) (uCons (uTup (uCons (uC (.int 1)) (uCons (uOp iSub (uC (.int 0)) (uC (.int 1))) uNil))) uNil))) (uName 3)) (rd_law_6 A))
def rd_law_8 (A : Adr) : TS2 :=
  (uSeq (uIfS (uNot (uTest (uIsO (tab_Area A) (uVar 2)))) (uRet (uC (.bl false))) uNext) (rd_law_7 A))
def rd_law_9 (A : Adr) : TS2 :=
  (uSeq (uAsg (uCall (sp_law_area A 16) [] (uCons (uVar 1) uNil)) (uName 2)) (rd_law_8 A))
def rd_law (A : Adr) : TS2 :=
  (uSeq
  (uAsg (uCall (sp_law_tree A) [] (uCons (uSlice (uVar 0) (uPart (uC (.int 1))) (uPart (uOp add2 (uC (.int 2)) (uOp iMod (uCall (sp_law_cell_at A) [] (uCons (uVar 0) (uCons (uC (.int 0)) uNil))) (uC (.int 12)))))) uNil)) (uName 1)) (rd_law_9 A))
theorem Ar.dep_pos (ar : Ar) : 1 ≤ ar.dep := by cases ar <;> simp [Ar.dep]
theorem IsAr.mono {A : Adr} {G G' : WH} (e : Ext G G') : ∀ (ar : Ar) (a : Addr), IsAr A G ar a → IsAr A G' ar a
  | .all, a, h => e _ _ h
  | .box _ _ _ _, a, h => e _ _ h
  | .both x y, a, ⟨p, q, h, h1, h2⟩ => ⟨p, q, e _ _ h, IsAr.mono e x p h1, IsAr.mono e y q h2⟩
  | .either x y, a, ⟨p, q, h, h1, h2⟩ => ⟨p, q, e _ _ h, IsAr.mono e x p h1, IsAr.mono e y q h2⟩
  | .out x, a, ⟨p, h, h1⟩ => ⟨p, e _ _ h, IsAr.mono e x p h1⟩
theorem IsAr.write {A : Adr} {G : WH} {l : Addr} {ws : List W} {o : WO} (hl : G l = some (.lst ws)) : ∀ (ar : Ar) (a : Addr), IsAr A G ar a → IsAr A (gup G l o) ar a
  | .all, a, h => gup_keep hl h (nomatch ·)
  | .box _ _ _ _, a, h => gup_keep hl h (nomatch ·)
  | .both x y, a, ⟨p, q, h, h1, h2⟩ => ⟨p, q, gup_keep hl h (nomatch ·), IsAr.write hl x p h1, IsAr.write hl y q h2⟩
  | .either x y, a, ⟨p, q, h, h1, h2⟩ => ⟨p, q, gup_keep hl h (nomatch ·), IsAr.write hl x p h1, IsAr.write hl y q h2⟩
  | .out x, a, ⟨p, h, h1⟩ => ⟨p, gup_keep hl h (nomatch ·), IsAr.write hl x p h1⟩
theorem md_ok {A : Adr} {n : Nat} {G : WH} {ar : Ar} {a : Addr} {x y : Int} {o : TE2} {t : TA2} {τ : St2} {Q : VK2} (h : IsAr A G ar a) (hn : ar.dep ≤ n) (ho : ∀ R : VK2, R (.ref a) G → o τ G R) (ht : ∀ R : List W → WH → Prop, R [.tup [.int x, .int y]] G → t τ G R)
    (q : Q (.bl (ar.has x y)) G) : md_has A n o t τ G Q := by
  cases ar with
  | all => exact .inl (ho _ ⟨⟨_, h, rfl⟩, ht _ ⟨a, x, y, rfl, q⟩⟩)
  | box u l b r => exact .inr (.inl (ho _ ⟨⟨_, h, rfl⟩, ht _ ⟨a, u, l, b, r, x, y, rfl, h, q⟩⟩))
  | both u v =>
    obtain ⟨p, p', h0, h1, h2⟩ := id h
    exact .inr (.inr (.inl (ho _ ⟨⟨_, h0, rfl⟩, ht _ ⟨a, u, v, x, y, rfl, h, hn, q⟩⟩)))
  | either u v =>
    obtain ⟨p, p', h0, h1, h2⟩ := id h
    exact .inr (.inr (.inr (.inl (ho _ ⟨⟨_, h0, rfl⟩, ht _ ⟨a, u, v, x, y, rfl, h, hn, q⟩⟩))))
  | out u =>
    obtain ⟨p, h0, h1⟩ := id h
    exact .inr (.inr (.inr (.inr (ho _ ⟨⟨_, h0, rfl⟩, ht _ ⟨a, u, x, y, rfl, h, hn, q⟩⟩))))
theorem len_Box_has {A : Adr} : ∀ ws G Q E, sp_Box_has A ws G Q E → ws.length = 2 := by rintro _ G Q E ⟨_, _, _, _, _, _, _, rfl, _⟩; rfl
theorem len_Everywhere_has {A : Adr} : ∀ ws G Q E, sp_Everywhere_has A ws G Q E → ws.length = 2 := by rintro _ G Q E ⟨_, _, _, rfl, _⟩; rfl
theorem len_Both_has {A : Adr} {n : Nat} : ∀ ws G Q E, sp_Both_has A n ws G Q E → ws.length = 2 := by rintro _ G Q E ⟨_, _, _, _, _, rfl, _⟩; rfl
theorem len_Either_has {A : Adr} {n : Nat} : ∀ ws G Q E, sp_Either_has A n ws G Q E → ws.length = 2 := by rintro _ G Q E ⟨_, _, _, _, _, rfl, _⟩; rfl
theorem len_Outside_has {A : Adr} {n : Nat} : ∀ ws G Q E, sp_Outside_has A n ws G Q E → ws.length = 2 := by rintro _ G Q E ⟨_, _, _, _, rfl, _⟩; rfl
theorem no_Both_has {A : Adr} : ∀ ws G Q E, ¬ sp_Both_has A 0 ws G Q E := by rintro _ G Q E ⟨_, _, _, _, _, _, _, h, _⟩; simp [Ar.dep] at h
theorem no_Either_has {A : Adr} : ∀ ws G Q E, ¬ sp_Either_has A 0 ws G Q E := by rintro _ G Q E ⟨_, _, _, _, _, _, _, h, _⟩; simp [Ar.dep] at h
theorem no_Outside_has {A : Adr} : ∀ ws G Q E, ¬ sp_Outside_has A 0 ws G Q E := by rintro _ G Q E ⟨_, _, _, _, _, _, h, _⟩; simp [Ar.dep] at h
theorem hd_Box_has (A : Adr) (ws : List W) (G : WH) (Q : VK2) (E : XK2) (h : sp_Box_has A ws G Q E) : rd_Box_has A (ends Q) (start2 ["self", "cell"] ws) G := by
  obtain ⟨a, t, l, b, r, x, y, rfl, h, q⟩ := h
  refine ⟨_, _, h, rfl, .int x, rfl, ?_⟩
  refine andv (R := fun k => Less Q (.bl k) G) (Less.of q) fun q => ?_
  refine ⟨.int x, rfl, _, _, h, rfl, ?_⟩
  refine andv (R := fun k => Less Q (.bl k) G) q fun q => ?_
  refine ⟨_, _, h, rfl, .int y, rfl, ?_⟩
  refine andv (R := fun k => Less Q (.bl k) G) q fun q => ?_
  exact ⟨.int y, rfl, _, _, h, rfl, q⟩
theorem hd_Everywhere_has (A : Adr) (ws : List W) (G : WH) (Q : VK2) (E : XK2) (h : sp_Everywhere_has A ws G Q E) : rd_Everywhere_has A (ends Q) (start2 ["self", "cell"] ws) G := by
  obtain ⟨a, x, y, rfl, q⟩ := h
  exact Less.of q
theorem hd_Both_has (A : Adr) (n : Nat) (ws : List W) (G : WH) (Q : VK2) (E : XK2) (h : sp_Both_has A (n + 1) ws G Q E) : rd_Both_has A n (ends Q) (start2 ["self", "cell"] ws) G := by
  obtain ⟨a, u, v, x, y, rfl, ⟨p, p', h0, h1, h2⟩, hn, q⟩ := h
  simp only [Ar.dep] at hn
  refine md_ok h1 (by omega) (fun R hR => ⟨_, _, h0, rfl, hR⟩) (fun R hR => hR) ?_
  refine andv (R := fun k => Less Q (.bl k) G) (Less.of q) fun q => ?_
  exact md_ok h2 (by omega) (fun R hR => ⟨_, _, h0, rfl, hR⟩) (fun R hR => hR) q
theorem hd_Either_has (A : Adr) (n : Nat) (ws : List W) (G : WH) (Q : VK2) (E : XK2) (h : sp_Either_has A (n + 1) ws G Q E) : rd_Either_has A n (ends Q) (start2 ["self", "cell"] ws) G := by
  obtain ⟨a, u, v, x, y, rfl, ⟨p, p', h0, h1, h2⟩, hn, q⟩ := h
  simp only [Ar.dep] at hn
  refine md_ok h1 (by omega) (fun R hR => ⟨_, _, h0, rfl, hR⟩) (fun R hR => hR) ?_
  refine orv (R := fun k => Less Q (.bl k) G) (Less.of q) fun q => ?_
  exact md_ok h2 (by omega) (fun R hR => ⟨_, _, h0, rfl, hR⟩) (fun R hR => hR) q
theorem hd_Outside_has (A : Adr) (n : Nat) (ws : List W) (G : WH) (Q : VK2) (E : XK2) (h : sp_Outside_has A (n + 1) ws G Q E) : rd_Outside_has A n (ends Q) (start2 ["self", "cell"] ws) G := by
  obtain ⟨a, u, x, y, rfl, ⟨p, h0, h1⟩, hn, q⟩ := h
  simp only [Ar.dep] at hn
  exact md_ok h1 (by omega) (fun R hR => ⟨_, _, h0, rfl, hR⟩) (fun R hR => hR) (Less.of q)
theorem len_Both_init {A : Adr} : ∀ ws G Q E, sp_Both_init A ws G Q E → ws.length = 3 := by rintro _ G Q E ⟨_, _, _, rfl, _⟩; rfl
theorem len_Either_init {A : Adr} : ∀ ws G Q E, sp_Either_init A ws G Q E → ws.length = 3 := by rintro _ G Q E ⟨_, _, _, rfl, _⟩; rfl
theorem len_Outside_init {A : Adr} : ∀ ws G Q E, sp_Outside_init A ws G Q E → ws.length = 2 := by rintro _ G Q E ⟨_, _, rfl, _⟩; rfl
theorem len_Box_init {A : Adr} : ∀ ws G Q E, sp_Box_init A ws G Q E → ws.length = 5 := by rintro _ G Q E ⟨_, _, _, _, _, rfl, _⟩; rfl
theorem hd_Both_init (A : Adr) (ws : List W) (G : WH) (Q : VK2) (E : XK2) (h : sp_Both_init A ws G Q E) : rd_Both_init A (ends Q) (start2 ["self", "one", "other"] ws) G := by
  obtain ⟨a, u, v, rfl, h, q⟩ := h
  refine ⟨_, h, by decide, _, gup_same, (by show 1 < 1000; decide), Less.of ?_⟩
  rw [gup_gup]; exact q
theorem hd_Either_init (A : Adr) (ws : List W) (G : WH) (Q : VK2) (E : XK2) (h : sp_Either_init A ws G Q E) : rd_Either_init A (ends Q) (start2 ["self", "one", "other"] ws) G := by
  obtain ⟨a, u, v, rfl, h, q⟩ := h
  refine ⟨_, h, by decide, _, gup_same, (by show 1 < 1000; decide), Less.of ?_⟩
  rw [gup_gup]; exact q
theorem hd_Outside_init (A : Adr) (ws : List W) (G : WH) (Q : VK2) (E : XK2) (h : sp_Outside_init A ws G Q E) : rd_Outside_init A (ends Q) (start2 ["self", "one"] ws) G := by
  obtain ⟨a, u, rfl, h, q⟩ := h
  exact ⟨_, h, by decide, Less.of q⟩
theorem hd_Box_init (A : Adr) (ws : List W) (G : WH) (Q : VK2) (E : XK2) (h : sp_Box_init A ws G Q E) : rd_Box_init A (ends Q) (start2 ["self", "top", "left", "bottom", "right"] ws) G := by
  obtain ⟨a, t, l, b, r, rfl, h, q⟩ := h
  refine ⟨_, h, by decide, _, gup_same, (by show 1 < 1000; decide), _, gup_same, (by show 2 < 1000; decide), _, gup_same, (by show 3 < 1000; decide), Less.of ?_⟩
  rw [gup_gup, gup_gup, gup_gup]; exact q
theorem len_law_area {A : Adr} {n : Nat} : ∀ ws G Q E, sp_law_area A n ws G Q E → ws.length = 1 := by rintro _ G Q E ⟨_, rfl, _⟩; rfl
theorem no_law_area {A : Adr} : ∀ ws G Q E, ¬ sp_law_area A 0 ws G Q E := by rintro _ G Q E ⟨ar, _, h, _⟩; have := ar.dep_pos; omega
theorem hd_law_area (A : Adr) (n : Nat) (ws : List W) (G : WH) (Q : VK2) (E : XK2) (h : sp_law_area A (n + 1) ws G Q E) : rd_law_area A n (ends Q) (start2 ["_law_tree_here"] ws) G := by
  obtain ⟨ar, rfl, hn, q⟩ := h
  cases ar with
  | all => exact ⟨.str "everywhere", rfl, ⟨_, _, .str _, .str _, dep_str, iteT fun x hx => Less.of (q x _ (.new hx) gup_same)⟩⟩
  | box t l b r =>
    refine ⟨.str "box", rfl, ⟨_, _, .str _, .str _, dep_str, iteF ⟨.str "box", rfl, ⟨_, _, .str _, .str _, dep_str, iteT ?_⟩⟩⟩⟩
    refine ⟨.int t, rfl, .int l, rfl, .int b, rfl, .int r, rfl, fun x hx => ⟨x, _, _, _, _, rfl, gup_same, rfl, ?_⟩⟩
    rw [gup_gup]
    exact Less.of (q x _ (.new hx) gup_same)
  | both u v =>
    simp only [Ar.dep] at hn
    refine ⟨.str "both", rfl, ⟨_, _, .str _, .str _, dep_str, iteF ⟨.str "both", rfl, ⟨_, _, .str _, .str _, dep_str, iteF ⟨.str "both", rfl, ⟨_, _, .str _, .str _, dep_str, iteF ⟨.str "both", rfl, ⟨_, _, .str _, .str _, dep_str, iteT ?_⟩⟩⟩⟩⟩⟩⟩⟩
    refine ⟨u.w, rfl, u, rfl, by omega, fun p G1 e1 h1 => ?_⟩
    refine ⟨v.w, rfl, v, rfl, by omega, fun p' G2 e2 h2 => ?_⟩
    intro x hx
    refine ⟨x, _, _, rfl, gup_same, rfl, ?_⟩
    rw [gup_gup]
    exact Less.of (q x _ ((e1.trans e2).trans (.new hx)) ⟨p, p', gup_same, IsAr.mono (e2.trans (.new hx)) u p h1, IsAr.mono (.new hx) v p' h2⟩)
  | either u v =>
    simp only [Ar.dep] at hn
    refine ⟨.str "either", rfl, ⟨_, _, .str _, .str _, dep_str, iteF ⟨.str "either", rfl, ⟨_, _, .str _, .str _, dep_str, iteF ⟨.str "either", rfl, ⟨_, _, .str _, .str _, dep_str, iteF ⟨.str "either", rfl, ⟨_, _, .str _, .str _, dep_str, iteF ?_⟩⟩⟩⟩⟩⟩⟩⟩
    refine ⟨u.w, rfl, u, rfl, by omega, fun p G1 e1 h1 => ?_⟩
    refine ⟨v.w, rfl, v, rfl, by omega, fun p' G2 e2 h2 => ?_⟩
    intro x hx
    refine ⟨x, _, _, rfl, gup_same, rfl, ?_⟩
    rw [gup_gup]
    exact Less.of (q x _ ((e1.trans e2).trans (.new hx)) ⟨p, p', gup_same, IsAr.mono (e2.trans (.new hx)) u p h1, IsAr.mono (.new hx) v p' h2⟩)
  | out u =>
    simp only [Ar.dep] at hn
    refine ⟨.str "outside", rfl, ⟨_, _, .str _, .str _, dep_str, iteF ⟨.str "outside", rfl, ⟨_, _, .str _, .str _, dep_str, iteF ⟨.str "outside", rfl, ⟨_, _, .str _, .str _, dep_str, iteT ?_⟩⟩⟩⟩⟩⟩
    refine ⟨u.w, rfl, u, rfl, by omega, fun p G1 e1 h1 => ?_⟩
    intro x hx
    refine ⟨x, _, rfl, gup_same, rfl, ?_⟩
    rw [gup_gup]
    exact Less.of (q x _ (e1.trans (.new hx)) ⟨p, gup_same, IsAr.mono (.new hx) u p h1⟩)
theorem len_law_has {A : Adr} {n : Nat} : ∀ ws G Q E, sp_law_has A n ws G Q E → ws.length = 2 := by rintro _ G Q E ⟨_, _, _, rfl, _⟩; rfl
theorem no_law_has {A : Adr} : ∀ ws G Q E, ¬ sp_law_has A 0 ws G Q E := by rintro _ G Q E ⟨ar, _, _, _, h, _⟩; have := ar.dep_pos; omega
theorem hd_law_has (A : Adr) (n : Nat) (ws : List W) (G : WH) (Q : VK2) (E : XK2) (h : sp_law_has A (n + 1) ws G Q E) : rd_law_has A n (ends Q) (start2 ["_law_tree_here", "_law_cell"] ws) G := by
  obtain ⟨ar, x, y, rfl, hn, q⟩ := h
  cases ar with
  | all => exact ⟨.str "everywhere", rfl, ⟨_, _, .str _, .str _, dep_str, iteT (Less.of q)⟩⟩
  | box t l b r =>
    refine ⟨.str "box", rfl, ⟨_, _, .str _, .str _, dep_str, iteF ⟨.str "box", rfl, ⟨_, _, .str _, .str _, dep_str, iteT ?_⟩⟩⟩⟩
    refine ⟨.int t, rfl, .int x, rfl, ?_⟩
    have q' : Less Q (.bl ((decide (t ≤ x) && decide (x ≤ b)) && (decide (l ≤ y) && decide (y ≤ r)))) G := by rw [Bool.and_assoc]; exact Less.of q
    have fin : ∀ k : Bool, k = (decide (t ≤ x) && decide (x ≤ b)) → (match W.bl k with | .bl c => if c = true then uChain iLe iLe (uOp ix2 (uVar 0) (uC (.int 2))) (uOp ix2 (uVar 1) (uC (.int 1))) (uOp ix2 (uVar 0) (uC (.int 4))) [some (Ar.box t l b r).w, some (.tup [.int x, .int y])] G (Less Q) else Less Q (.bl false) G | _ => False) := by
      rintro k rfl
      refine andv (R := fun k => Less Q (.bl k) G) q' fun q => ?_
      refine ⟨.int l, rfl, .int y, rfl, ?_⟩
      exact andv (R := fun k => Less Q (.bl k) G) q fun q => ⟨.int r, rfl, q⟩
    refine ifd (fun h1 => ⟨.int b, rfl, fin _ (by simp [h1])⟩) fun h1 => fin false (by simp [h1])
  | both u v =>
    simp only [Ar.dep] at hn
    refine ⟨.str "both", rfl, ⟨_, _, .str _, .str _, dep_str, iteF ⟨.str "both", rfl, ⟨_, _, .str _, .str _, dep_str, iteF ⟨.str "both", rfl, ⟨_, _, .str _, .str _, dep_str, iteF ⟨.str "both", rfl, ⟨_, _, .str _, .str _, dep_str, iteT ?_⟩⟩⟩⟩⟩⟩⟩⟩
    refine ⟨u.w, rfl, u, x, y, rfl, by omega, ?_⟩
    refine andv (R := fun k => Less Q (.bl k) G) (Less.of q) fun q => ?_
    exact ⟨v.w, rfl, v, x, y, rfl, by omega, q⟩
  | either u v =>
    simp only [Ar.dep] at hn
    refine ⟨.str "either", rfl, ⟨_, _, .str _, .str _, dep_str, iteF ⟨.str "either", rfl, ⟨_, _, .str _, .str _, dep_str, iteF ⟨.str "either", rfl, ⟨_, _, .str _, .str _, dep_str, iteF ⟨.str "either", rfl, ⟨_, _, .str _, .str _, dep_str, iteF ?_⟩⟩⟩⟩⟩⟩⟩⟩
    refine ⟨u.w, rfl, u, x, y, rfl, by omega, ?_⟩
    refine orv (R := fun k => Less Q (.bl k) G) (Less.of q) fun q => ?_
    exact ⟨v.w, rfl, v, x, y, rfl, by omega, q⟩
  | out u =>
    simp only [Ar.dep] at hn
    refine ⟨.str "outside", rfl, ⟨_, _, .str _, .str _, dep_str, iteF ⟨.str "outside", rfl, ⟨_, _, .str _, .str _, dep_str, iteF ⟨.str "outside", rfl, ⟨_, _, .str _, .str _, dep_str, iteT ?_⟩⟩⟩⟩⟩⟩
    exact ⟨u.w, rfl, u, x, y, rfl, by omega, Less.of q⟩
theorem len_law_corners {A : Adr} {n : Nat} : ∀ ws G Q E, sp_law_corners A n ws G Q E → ws.length = 1 := by rintro _ G Q E ⟨_, rfl, _⟩; rfl
theorem no_law_corners {A : Adr} : ∀ ws G Q E, ¬ sp_law_corners A 0 ws G Q E := by rintro _ G Q E ⟨ar, _, h, _⟩; have := ar.dep_pos; omega
theorem corners_two {A : Adr} {n : Nat} {G : WH} {Q : VK2} {u v : Ar} (hu : u.dep ≤ n) (hv : v.dep ≤ n) (hl : u.leaves + v.leaves ≤ 100) (q : ∀ (cs : List (Int × Int)) p G', Ext G G' → G' p = some (.lst (cs.map cw)) → cs.length ≤ 2 * (u.leaves + v.leaves) → Q (.ref p) G') :
    sp_law_corners A n [u.w] G (fun x G1 => sp_law_corners A n [v.w] G1 (fun y G2 => add2 x y G2 (Less Q)) noX) noX := by
  refine ⟨u, rfl, hu, by omega, fun cs p G1 e1 h1 l1 => ?_⟩
  refine ⟨v, rfl, hv, by omega, fun cs' p' G2 e2 h2 l2 => ?_⟩
  refine ⟨_, _, e2 _ _ h1, h2, sz (by simp; omega), fun l hl' => Less.of ?_⟩
  refine q (cs ++ cs') l _ ((e1.trans e2).trans (.new hl')) ?_ (by simp; omega)
  rw [gup_same, List.map_append]
theorem hd_law_corners (A : Adr) (n : Nat) (ws : List W) (G : WH) (Q : VK2) (E : XK2) (h : sp_law_corners A (n + 1) ws G Q E) : rd_law_corners A n (ends Q) (start2 ["_law_tree_here"] ws) G := by
  obtain ⟨ar, rfl, hn, hl, q⟩ := h
  cases ar with
  | all =>
    refine ⟨.str "everywhere", rfl, ⟨_, _, .str _, .str _, dep_str, iteF ⟨.str "everywhere", rfl, ⟨_, _, .str _, .str _, dep_str, iteF ?_⟩⟩⟩⟩
    refine ⟨1, rfl, ⟨_, _, .int _, .int _, dep_int, iteF ?_⟩⟩
    refine ⟨by decide, by decide, fun p hp => Less.of (q [(0, 0)] p _ (.new hp) gup_same (by decide))⟩
  | box t l b r =>
    refine ⟨.str "box", rfl, ⟨_, _, .str _, .str _, dep_str, iteT ?_⟩⟩
    refine ⟨.int t, rfl, .int l, rfl, (by show 2 ≤ sizeLine; decide), .int b, rfl, .int r, rfl, (by show 2 ≤ sizeLine; decide), (by show 2 ≤ sizeLine; decide), fun p hp => Less.of (q [(t, l), (b, r)] p _ (.new hp) gup_same ?_)⟩
    simp [Ar.leaves]
  | both u v =>
    simp only [Ar.dep] at hn
    simp only [Ar.leaves] at hl q
    refine ⟨.str "both", rfl, ⟨_, _, .str _, .str _, dep_str, iteF ⟨.str "both", rfl, ⟨_, _, .str _, .str _, dep_str, iteF ⟨3, rfl, ⟨_, _, .int _, .int _, dep_int, iteT ?_⟩⟩⟩⟩⟩⟩
    refine ⟨u.w, rfl, ?_⟩
    have := corners_two (A := A) (n := n) (u := u) (v := v) (by omega) (by omega) hl q
    obtain ⟨u', e, h1, h2, h3⟩ := this
    refine ⟨u', e, h1, h2, fun cs p G' e1 e2 e3 => ⟨v.w, rfl, h3 cs p G' e1 e2 e3⟩⟩
  | either u v =>
    simp only [Ar.dep] at hn
    simp only [Ar.leaves] at hl q
    refine ⟨.str "either", rfl, ⟨_, _, .str _, .str _, dep_str, iteF ⟨.str "either", rfl, ⟨_, _, .str _, .str _, dep_str, iteF ⟨3, rfl, ⟨_, _, .int _, .int _, dep_int, iteT ?_⟩⟩⟩⟩⟩⟩
    refine ⟨u.w, rfl, ?_⟩
    have := corners_two (A := A) (n := n) (u := u) (v := v) (by omega) (by omega) hl q
    obtain ⟨u', e, h1, h2, h3⟩ := this
    refine ⟨u', e, h1, h2, fun cs p G' e1 e2 e3 => ⟨v.w, rfl, h3 cs p G' e1 e2 e3⟩⟩
  | out u =>
    simp only [Ar.dep] at hn
    simp only [Ar.leaves] at hl q
    refine ⟨.str "outside", rfl, ⟨_, _, .str _, .str _, dep_str, iteF ⟨.str "outside", rfl, ⟨_, _, .str _, .str _, dep_str, iteT ?_⟩⟩⟩⟩
    exact ⟨u.w, rfl, u, rfl, by omega, hl, fun cs p G' e1 h1 l1 => Less.of (q cs p G' e1 h1 l1)⟩
theorem len_law_cell_at {A : Adr} : ∀ ws G Q E, sp_law_cell_at A ws G Q E → ws.length = 2 := by rintro _ G Q E ⟨_, _, _, rfl, _⟩; rfl
theorem hd_law_cell_at (A : Adr) (ws : List W) (G : WH) (Q : VK2) (E : XK2) (h : sp_law_cell_at A ws G Q E) : rd_law_cell_at A (ends Q) (start2 ["_law_script", "_law_k"] ws) G := by
  obtain ⟨w, ns, k, rfl, hw, q⟩ := h
  have hl : lenW G w = some (ns.map W.int).length := by
    rcases hw with rfl | ⟨a, rfl, h⟩
    · rfl
    · exact lenW_l h
  refine ⟨(ns.map W.int).length, hl, ?_⟩
  refine ifd (fun hlt => ?_) fun hge => ?_
  · have hk : k < ns.length := by simpa using hlt
    have e : atI (ns.map W.int) k = some (.int ns[k]) := atI_nat (by simp [hk])
    have q' : Less Q (.int ns[k]) G := Less.of (by have : cellAt ns k = ns[k] := by simp [cellAt, hk]
                                                   rw [← this]; exact q)
    rcases hw with rfl | ⟨a, rfl, h⟩
    · exact ⟨_, e, q'⟩
    · exact ix2_l h e q'
  · have hk : ¬ k < ns.length := by simpa using hge
    have : cellAt ns k = 0 := by simp [cellAt, Nat.not_lt.mp hk]
    rw [this] at q
    exact Less.of q
theorem len_law_number {A : Adr} : ∀ ws G Q E, sp_law_number A ws G Q E → ws.length = 1 := by rintro _ G Q E ⟨_, rfl, _⟩; rfl
theorem hd_law_number (A : Adr) (ws : List W) (G : WH) (Q : VK2) (E : XK2) (h : sp_law_number A ws G Q E) : rd_law_number A (ends Q) (start2 ["_law_cell"] ws) G := by
  obtain ⟨x, rfl, q⟩ := h
  refine ⟨by show (0 : Int) < 5; decide, ⟨_, _, .int _, .int _, dep_int, ifeq (fun _ => ?_) fun _ => ?_⟩⟩
  · refine ⟨⟨by decide, by decide⟩, ⟨by decide, by decide, by decide⟩, by show (0 : Int) < 10 ^ 30; decide, ⟨by decide, by decide, by decide⟩, .inl ⟨by decide, by decide⟩, Less.of (q _)⟩
  · exact ⟨⟨by decide, by decide⟩, by show (0 : Int) < 9; decide, Less.of (q _)⟩
theorem len_law_leaf {A : Adr} : ∀ ws G Q E, sp_law_leaf A ws G Q E → ws.length = 1 := by rintro _ G Q E ⟨_, rfl, _⟩; rfl
theorem hd_law_leaf (A : Adr) (ws : List W) (G : WH) (Q : VK2) (E : XK2) (h : sp_law_leaf A ws G Q E) : rd_law_leaf A (ends Q) (start2 ["_law_cell", "_law_top", "_law_left"] ws) G := by
  obtain ⟨x, rfl, q⟩ := h
  refine ⟨by show (0 : Int) < 7; decide, ⟨_, _, .int _, .int _, dep_int, ifeq (fun _ => ?_) fun _ => ?_⟩⟩
  · exact ⟨by decide, Less.of (q .all (.inl rfl))⟩
  · refine ⟨⟨by decide, by decide⟩, _, rfl, fun t => ?_⟩
    refine ⟨⟨by decide, by decide⟩, _, rfl, fun l => ?_⟩
    refine ⟨⟨by decide, by decide⟩, by show (0 : Int) < 6; decide, ⟨by decide, by decide⟩, by show (0 : Int) < 6; decide, by show 5 ≤ sizeLine; decide, Less.of (q (.box _ _ _ _) (.inr ⟨_, _, _, _, rfl⟩))⟩
theorem len_law_tree {A : Adr} : ∀ ws G Q E, sp_law_tree A ws G Q E → ws.length = 1 := by rintro _ G Q E ⟨_, _, rfl, _⟩; rfl
theorem cutW_ints (ns : List Int) (lo hi : Option Int) : ∃ ms : List Int, cutW (ns.map W.int) lo hi = ms.map W.int ∧ ms.length ≤ HT.sIx ns.length ns.length hi - HT.sIx ns.length 0 lo := by
  refine ⟨(ns.drop (HT.sIx ns.length 0 lo)).take (HT.sIx ns.length ns.length hi - HT.sIx ns.length 0 lo), ?_, ?_⟩
  · unfold cutW
    rw [List.length_map, ← List.map_drop, ← List.map_take]
  · rw [List.length_take]; omega
theorem leaf_dep {ar : Ar} (h : IsLeaf ar) : ar.dep = 1 ∧ ar.leaves = 1 := by
  rcases h with rfl | ⟨_, _, _, _, rfl⟩ <;> exact ⟨rfl, rfl⟩
theorem pick2 {G : WH} {u v : W} {k : Int} {R : VK2} (h : ∀ p G', Ext G G' → G' p = some (.lst [u, v]) → (k % 2 = 0 → R u G') ∧ (k % 2 = 1 → R v G')) : ∀ p, G p = none → ix2 (.ref p) (.int (k % 2)) (gup G p (.lst [u, v])) R := fun p hp => by
  obtain ⟨h0, h1⟩ := h p _ (.new hp) gup_same
  have : k % 2 = 0 ∨ k % 2 = 1 := by omega
  rcases this with e | e
  · rw [e]; exact ix2_l gup_same rfl (h0 e)
  · rw [e]; exact ix2_l gup_same rfl (h1 e)
/-- the pair of two areas in one or the other order -/
theorem pick4 {G : WH} {u v : W} {k : Int} {R : W → W → WH → Prop} (h : ∀ x y G', Ext G G' → (x = u ∧ y = v ∨ x = v ∧ y = u) → R x y G') (p : Addr) (hp : G p = none) :
    ix2 (.ref p) (.int (k / 4 % 2)) (gup G p (.lst [u, v])) fun x G1 => [v, u].length ≤ sizeLine ∧ ∀ p2, G1 p2 = none → CDiv k 4 ∧ (0 : Int) < 2 ∧ ix2 (.ref p2) (.int (k / 4 % 2)) (gup G1 p2 (.lst [v, u])) fun y G2 => R x y G2 := by
  refine pick2 (k := k / 4) (fun p' G' e' _ => ⟨fun e0 => ?_, fun e1 => ?_⟩) p hp
  · refine ⟨(by show 2 ≤ sizeLine; decide), fun p2 hp2 => ⟨⟨by decide, by decide⟩, by decide, ?_⟩⟩
    refine pick2 (k := k / 4) (fun p3 G3 e3 _ => ⟨fun _ => h _ _ _ (e'.trans e3) (.inl ⟨rfl, rfl⟩), fun e1 => by omega⟩) p2 hp2
  · refine ⟨(by show 2 ≤ sizeLine; decide), fun p2 hp2 => ⟨⟨by decide, by decide⟩, by decide, ?_⟩⟩
    refine pick2 (k := k / 4) (fun p3 G3 e3 _ => ⟨fun e0 => by omega, fun _ => h _ _ _ (e'.trans e3) (.inr ⟨rfl, rfl⟩)⟩) p2 hp2
theorem hd_law_tree (A : Adr) (ws : List W) (G : WH) (Q : VK2) (E : XK2) (h : sp_law_tree A ws G Q E) : rd_law_tree A (ends Q) (start2 ["_law_cells", "_law_tree_here", "_law_cell", "_law_other"] ws) G := by
  obtain ⟨a, ns, rfl, ha, hn, q⟩ := h
  refine ⟨.ref a, ns, 0, rfl, .inr ⟨a, rfl, ha⟩, _, rfl, fun ar0 h0 => ?_⟩
  refine ⟨_, ha, fun p hp => ?_⟩
  obtain ⟨ms, em, hm⟩ := cutW_ints ns (some 1) (some 12)
  have hm' : ms.length ≤ 11 := by
    have e1 : HT.sIx ns.length 0 (some 1) = min 1 ns.length := HT.sIx_nat ns.length 0 1
    have e2 : HT.sIx ns.length ns.length (some 12) = min 12 ns.length := HT.sIx_nat ns.length ns.length 12
    rw [e1, e2] at hm
    omega
  rw [em]
  refine ⟨_, gup_same, ?_⟩
  refine loop_invL (fun i τ G' => (∃ (ar : Ar) (x2 x3 : Option W), τ = [some (.ref a), some ar.w, x2, x3] ∧ ar.dep ≤ i + 1 ∧ ar.leaves ≤ i + 1) ∧ G' p = some (.lst (ms.map W.int)) ∧ Ext G G') _ 0 _ _ ⟨⟨ar0, _, _, rfl, by rw [(leaf_dep h0).1]; omega, by rw [(leaf_dep h0).2]; omega⟩, gup_same, .new hp⟩ (fun _ τ G' _ _ h => h.2.1) ?_ ?_
  · rintro i w τ G' hw ⟨⟨ar, x2, x3, rfl, hd, hlv⟩, hp', eG⟩ N hN
    have : ∃ m : Int, w = .int m := by
      have := List.mem_of_getElem? hw
      obtain ⟨m, _, rfl⟩ := List.mem_map.mp this
      exact ⟨m, rfl⟩
    obtain ⟨m, rfl⟩ := this
    have fin : ∀ (br : Ar) (G1 : WH) (y2 y3 : Option W), Ext G' G1 → br.dep ≤ i + 2 → br.leaves ≤ i + 2 → N [some (.ref a), some br.w, y2, y3] G1 := fun br G1 y2 y3 e h1 h2 =>
      hN _ _ G1 (fun _ _ z => z) ⟨⟨br, _, _, rfl, by omega, by omega⟩, e _ _ hp', eG.trans e⟩
    refine ⟨⟨by decide, by decide⟩, _, rfl, fun lf hlf => ?_⟩
    obtain ⟨l1, l2⟩ := leaf_dep hlf
    refine ⟨by show (0 : Int) < 4; decide, ⟨_, _, .int _, .int _, dep_int, ifeq (fun _ => ?_) fun _ => ?_⟩⟩
    · exact ⟨(by show 2 ≤ sizeLine; decide), fin (.out ar) G' _ _ (.refl _) (by simp only [Ar.dep]; omega) (by simp only [Ar.leaves]; omega)⟩
    · refine ⟨by show (0 : Int) < 4; decide, ⟨_, _, .int _, .int _, dep_int, ifeq (fun _ => ?_) fun _ => ?_⟩⟩
      · refine ⟨(by show 2 ≤ sizeLine; decide), fun p hp => ⟨⟨by decide, by decide⟩, (by show (0 : Int) < 2; decide), ?_⟩⟩
        refine pick4 (R := fun x y G2 => [W.str "both", x, y].length ≤ sizeLine ∧ N [some (.ref a), some (.tup [.str "both", x, y]), some (.int m), some lf.w] G2) (fun x y G1 e1 hxy => ?_) p hp
        rcases hxy with ⟨rfl, rfl⟩ | ⟨rfl, rfl⟩
        · exact ⟨(by show 3 ≤ sizeLine; decide), fin (.both ar lf) G1 _ _ e1 (by simp only [Ar.dep]; omega) (by simp only [Ar.leaves]; omega)⟩
        · exact ⟨(by show 3 ≤ sizeLine; decide), fin (.both lf ar) G1 _ _ e1 (by simp only [Ar.dep]; omega) (by simp only [Ar.leaves]; omega)⟩
      · refine ⟨(by show 2 ≤ sizeLine; decide), fun p hp => ⟨⟨by decide, by decide⟩, (by show (0 : Int) < 2; decide), ?_⟩⟩
        refine pick4 (R := fun x y G2 => [W.str "either", x, y].length ≤ sizeLine ∧ N [some (.ref a), some (.tup [.str "either", x, y]), some (.int m), some lf.w] G2) (fun x y G1 e1 hxy => ?_) p hp
        rcases hxy with ⟨rfl, rfl⟩ | ⟨rfl, rfl⟩
        · exact ⟨(by show 3 ≤ sizeLine; decide), fin (.either ar lf) G1 _ _ e1 (by simp only [Ar.dep]; omega) (by simp only [Ar.leaves]; omega)⟩
        · exact ⟨(by show 3 ≤ sizeLine; decide), fin (.either lf ar) G1 _ _ e1 (by simp only [Ar.dep]; omega) (by simp only [Ar.leaves]; omega)⟩
  · rintro τ G' ⟨⟨ar, x2, x3, rfl, hd, hlv⟩, hp', eG⟩
    rw [List.length_map] at hd hlv
    exact eG.less (q ar (by omega) (by omega))
theorem len_law {A : Adr} : ∀ ws G Q E, sp_law A ws G Q E → ws.length = 1 := by rintro _ G Q E ⟨_, rfl, _⟩; rfl
section
variable {A : Adr} {Q : VK2} (q : ∀ G', Q (.bl true) G')
include q
/-- the last loop -/
theorem law_2 (s x4 x5 x6 x7 : Option W) (ar : Ar) (hd : ar.dep ≤ 16) (a p : Addr) (cs : List (Int × Int)) (G : WH) (ha : IsAr A G ar a) (hp : G p = some (.lst (cs.map cw))) : rd_law_2 A (ends Q) [s, some ar.w, some (.ref a), some (.ref p), x4, x5, x6, x7] G := by
  refine ⟨_, hp, ?_⟩
  refine loop_inv (fun _ τ G' => (∃ x7, τ = [s, some ar.w, some (.ref a), some (.ref p), x4, x5, x6, x7]) ∧ G' = G) _ 0 _ _ ⟨⟨_, rfl⟩, rfl⟩ (fun _ τ G' _ _ h => by rw [h.2]; exact hp) ?_ ?_
  · rintro j w τ G' hw ⟨⟨x7, rfl⟩, rfl⟩ N hN
    have : ∃ c : Int × Int, w = cw c := by
      have := List.mem_of_getElem? hw
      obtain ⟨m, _, rfl⟩ := List.mem_map.mp this
      exact ⟨m, rfl⟩
    obtain ⟨⟨x, y⟩, rfl⟩ := this
    refine md_ok (x := x) (y := y) ha hd (fun R hR => hR) (fun R hR => hR) ⟨"bool", true, rfl, rfl, iteF ?_⟩
    refine md_ok (x := x) (y := y) ha hd (fun R hR => hR) (fun R hR => hR) ?_
    refine ⟨ar, x, y, rfl, hd, ⟨_, _, .bl _, .bl _, dep_bl, ?_⟩⟩
    rw [eqD_refl]
    exact iteF (hN _ _ ⟨⟨_, rfl⟩, rfl⟩)
  · rintro τ G' ⟨⟨x7, rfl⟩, rfl⟩
    exact Less.of (q _)
theorem law_4 (ns : List Int) (x4 x5 x6 x7 : Option W) (ar : Ar) (hd : ar.dep ≤ 16) (a p : Addr) (cs : List (Int × Int)) (hcs : cs.length ≤ 500) (G : WH) (ha : IsAr A G ar a) (hp : G p = some (.lst (cs.map cw))) : rd_law_4 A (ends Q) [some (.scr (ns.map .int)), some ar.w, some (.ref a), some (.ref p), x4, x5, x6, x7] G := by
  refine ⟨⟨by decide, by decide, by decide, by decide⟩, ?_⟩
  refine loop_invL (fun i τ G' => (∃ x6, τ = [some (.scr (ns.map .int)), some ar.w, some (.ref a), some (.ref p), x4, x5, x6, x7]) ∧ IsAr A G' ar a ∧ ∃ cs : List (Int × Int), cs.length ≤ 500 + i ∧ G' p = some (.lst (cs.map cw))) _ 0 _ _ ⟨⟨_, rfl⟩, ha, cs, hcs, hp⟩ (fun _ _ _ _ _ _ => trivial) ?_ ?_
  · rintro j w τ G' hw ⟨⟨x6, rfl⟩, ha, cs, hcs, hp⟩ N hN
    obtain ⟨hj, rfl⟩ := rangeW_get hw
    have hj' : j < 6 := hj
    refine ⟨⟨_, hp⟩, ?_⟩
    refine ⟨.scr (ns.map .int), ns, 13 + j, by show [W.scr _, W.int (13 + (j : Int))] = [_, W.int ((13 + j : Nat) : Int)]; rw [Int.natCast_add]; rfl, .inl rfl, _, rfl, fun y1 => ?_⟩
    refine ⟨.scr (ns.map .int), ns, 13 + j + 6, by show [W.scr _, W.int (13 + (j : Int) + 6)] = [_, W.int ((13 + j + 6 : Nat) : Int)]; rw [Int.natCast_add, Int.natCast_add]; rfl, .inl rfl, _, rfl, fun y2 => ?_⟩
    refine ⟨(by show 2 ≤ sizeLine; decide), _, hp, sz' (by rw [List.length_map]; omega), ?_⟩
    refine hN _ _ _ (fun _ _ z => z) ⟨⟨_, rfl⟩, IsAr.write hp ar a ha, cs ++ [(y1, y2)], by simp; omega, ?_⟩
    rw [gup_same, List.map_append]; rfl
  · rintro τ G' ⟨⟨x6, rfl⟩, ha, cs, hcs, hp⟩
    exact law_2 q _ _ _ _ _ ar hd a p cs G' ha hp
theorem law_6 (ns : List Int) (x4 x5 x6 x7 : Option W) (ar : Ar) (hd : ar.dep ≤ 16) (hl : ar.leaves ≤ 20) (a p : Addr) (cs : List (Int × Int)) (hcs : cs.length = 2) (G : WH) (ha : IsAr A G ar a) (hp : G p = some (.lst (cs.map cw))) : rd_law_6 A (ends Q) [some (.scr (ns.map .int)), some ar.w, some (.ref a), some (.ref p), x4, x5, x6, x7] G := by
  refine ⟨ar, rfl, hd, by omega, fun ds l G1 e1 h1 l1 => ?_⟩
  refine ⟨_, h1, ?_⟩
  refine loop_invL (fun i τ G' => ∃ p x4 x5, τ = [some (.scr (ns.map .int)), some ar.w, some (.ref a), some (.ref p), x4, x5, x6, x7] ∧ IsAr A G' ar a ∧ G' l = some (.lst (ds.map cw)) ∧ ∃ cs : List (Int × Int), cs.length = 2 + 5 * i ∧ G' p = some (.lst (cs.map cw))) _ 0 _ _ ⟨p, _, _, rfl, IsAr.mono e1 ar a ha, h1, cs, hcs, e1 _ _ hp⟩ (fun _ _ _ _ _ h => by obtain ⟨_, _, _, _, _, h, _⟩ := h; exact h) ?_ ?_
  · rintro j w τ G' hw ⟨p, x4, x5, rfl, ha, hl', cs, hcs, hp⟩ N hN
    have hj : j < ds.length := by
      have := (List.getElem?_eq_some_iff.mp hw).1
      simpa using this
    have : ∃ c : Int × Int, w = cw c := by
      have := List.mem_of_getElem? hw
      obtain ⟨m, _, rfl⟩ := List.mem_map.mp this
      exact ⟨m, rfl⟩
    obtain ⟨⟨x, y⟩, rfl⟩ := this
    refine ⟨rfl, rfl, ?_⟩
    refine ⟨(by show 2 ≤ sizeLine; decide), (by show 2 ≤ sizeLine; decide), (by show 2 ≤ sizeLine; decide), (by show 2 ≤ sizeLine; decide), (by show 2 ≤ sizeLine; decide), (by show 5 ≤ sizeLine; decide), fun t ht => ?_⟩
    refine ⟨_, _, gk hp ht, gup_same, sz (by simp; omega), fun t2 ht2 => ?_⟩
    have e2 : Ext G' (gup (gup G' t (.lst ([(x, y), (x - 1, y), (x + 1, y), (x, y - 1), (x, y + 1)].map cw))) t2 (.lst (cs.map cw ++ [(x, y), (x - 1, y), (x + 1, y), (x, y - 1), (x, y + 1)].map cw))) := (Ext.new ht).trans (.new ht2)
    refine hN _ _ _ (fun _ _ z => z) ⟨t2, _, _, rfl, IsAr.mono e2 ar a ha, e2 _ _ hl', cs ++ [(x, y), (x - 1, y), (x + 1, y), (x, y - 1), (x, y + 1)], by simp; omega, ?_⟩
    rw [List.map_append]
    exact gup_same
  · rintro τ G' ⟨p, x4, x5, rfl, ha, hl', cs, hcs, hp⟩
    rw [List.length_map] at hcs
    exact law_4 q ns _ _ _ _ ar hd a p cs (by omega) G' ha hp
end
theorem hd_law (A : Adr) (ws : List W) (G : WH) (Q : VK2) (E : XK2) (h : sp_law A ws G Q E) : rd_law A (ends Q) (start2 ["_law_script", "_law_tree_here", "_law_area_here", "_law_some", "_law_row", "_law_column", "_law_k", "_law_cell"] ws) G := by
  obtain ⟨ns, rfl, hn, q⟩ := h
  refine ⟨.scr (ns.map .int), ns, 0, rfl, .inl rfl, by show (0 : Int) < 12; decide, fun p hp => ?_⟩
  obtain ⟨ms, em, hm⟩ := cutW_ints ns (some 1) (some (2 + cellAt ns 0 % 12))
  have hm' : ms.length ≤ 63 := by
    have h1 := HT.sIx_le ns.length ns.length (Nat.le_refl _) (some (2 + cellAt ns 0 % 12))
    omega
  rw [em]
  refine ⟨p, ms, rfl, gup_same, hm', fun ar hd hl => ?_⟩
  refine ⟨ar, rfl, by omega, fun a G1 e1 h1 => ?_⟩
  have hio : ∃ C fs, G1 a = some (.ins C fs) ∧ (C, true) ∈ tab_Area A := by
    cases ar with
    | all => exact ⟨_, _, h1, by simp [tab_Area]⟩
    | box t l b r => exact ⟨_, _, h1, by simp [tab_Area]⟩
    | both x y => obtain ⟨_, _, h0, _⟩ := h1; exact ⟨_, _, h0, by simp [tab_Area]⟩
    | either x y => obtain ⟨_, _, h0, _⟩ := h1; exact ⟨_, _, h0, by simp [tab_Area]⟩
    | out x => obtain ⟨_, h0, _⟩ := h1; exact ⟨_, _, h0, by simp [tab_Area]⟩
  obtain ⟨C, fs, h0, hm⟩ := hio
  refine ⟨C, fs, true, h0, hm, ?_⟩
  refine iteF ?_
  refine ⟨by decide, by decide, by decide, fun l hl' => ?_⟩
  exact law_6 q ns _ _ _ _ ar (by omega) (by omega) a l [(0, 0), (1, -1)] rfl _ (IsAr.mono (.new hl') ar a h1) gup_same
/-- the script as the law is called -/
theorem law_start : ∀ (K : PySem.W.Frag) (H : Hp) (a : Addr) (ns : List Int), ns.length ≤ 63 → Only H → SqL K H a (ns.map V.int) → lowSp K sp_law0 [.ref a] H (fun v _ => v = .bl true) fun _ _ _ => False := fun K H a ns hl hO hS => by
  have hf : FrzL K H a (ns.map V.int) := by
    rcases hS with (h | ⟨o, h⟩) | h
    · rcases hO a with z | ⟨o, xs, z⟩
      · rw [z] at h; cases h
      · rw [z] at h; cases h
    · exact .inl ⟨o, h⟩
    · exact .inr h
  have hr : ∀ l : List Int, Reps K H (l.map W.int) (l.map V.int) := fun l => by
    induction l with
    | nil => exact .nil
    | cons i l ih => exact .cons (.int i) ih
  exact ⟨[.scr (ns.map .int)], fun _ => none, fun w _ => w = .bl true, noX, .cons (.scr hf (hr ns)) .nil, (fun _ _ e => by cases e), ⟨ns, rfl, hl, fun _ => rfl⟩, (fun v H' w G' _ _ r e => by subst e; cases r; rfl), fun _ _ _ _ _ _ _ _ h => h⟩
end My

set_option Elab.async false
set_option linter.all false
set_option maxRecDepth 100000
set_option maxHeartbeats 4000000
namespace My
open PySem PySem.Spec L2 L3
open PyProof.Rows hiding St
def top (i : Nat) : Stmt := PySem.Challenge.pw_dustwalk_k29_areas.main.body.getD i (.Pass ⟨0, 0, 0, 0⟩)
abbrev s_Box_has : Stmt := inClass (top 3) 1
abbrev s_Everywhere_has : Stmt := inClass (top 2) 0
abbrev s_Both_has : Stmt := inClass (top 4) 1
abbrev s_Either_has : Stmt := inClass (top 5) 1
abbrev s_Outside_has : Stmt := inClass (top 6) 1
abbrev s_Both_init : Stmt := inClass (top 4) 0
abbrev s_Box_init : Stmt := inClass (top 3) 0
abbrev s_Either_init : Stmt := inClass (top 5) 0
abbrev s_Outside_init : Stmt := inClass (top 6) 0
abbrev s_law_area : Stmt := top 12
abbrev s_law_cell_at : Stmt := top 8
abbrev s_law_corners : Stmt := top 14
abbrev s_law_has : Stmt := top 13
abbrev s_law_number : Stmt := top 9
abbrev s_law_leaf : Stmt := top 10
abbrev s_law_tree : Stmt := top 11
abbrev s_law : Stmt := top 15
structure Txt (K : PySem.W.Frag) (w : World) (mg : Str → Option Value) (A : Adr) : Prop where
  F_Box_has : Fun K "has" "Box.has" s_Box_has A.f_Box_has A.d_Box_has
  b_Box_has : Binds K A.d_Box_has ["self", "cell"] []
  k_Box_has : PySem.W.keepIn K (.ref A.f_Box_has) = true
  me_Box_has : Meth K A.c_Box "has" A.f_Box_has
  F_Everywhere_has : Fun K "has" "Everywhere.has" s_Everywhere_has A.f_Everywhere_has A.d_Everywhere_has
  b_Everywhere_has : Binds K A.d_Everywhere_has ["self", "cell"] []
  k_Everywhere_has : PySem.W.keepIn K (.ref A.f_Everywhere_has) = true
  me_Everywhere_has : Meth K A.c_Everywhere "has" A.f_Everywhere_has
  F_Both_has : Fun K "has" "Both.has" s_Both_has A.f_Both_has A.d_Both_has
  b_Both_has : Binds K A.d_Both_has ["self", "cell"] []
  k_Both_has : PySem.W.keepIn K (.ref A.f_Both_has) = true
  me_Both_has : Meth K A.c_Both "has" A.f_Both_has
  F_Either_has : Fun K "has" "Either.has" s_Either_has A.f_Either_has A.d_Either_has
  b_Either_has : Binds K A.d_Either_has ["self", "cell"] []
  k_Either_has : PySem.W.keepIn K (.ref A.f_Either_has) = true
  me_Either_has : Meth K A.c_Either "has" A.f_Either_has
  F_Outside_has : Fun K "has" "Outside.has" s_Outside_has A.f_Outside_has A.d_Outside_has
  b_Outside_has : Binds K A.d_Outside_has ["self", "cell"] []
  k_Outside_has : PySem.W.keepIn K (.ref A.f_Outside_has) = true
  me_Outside_has : Meth K A.c_Outside "has" A.f_Outside_has
  F_Both_init : Fun K "__init__" "Both.__init__" s_Both_init A.f_Both_init A.d_Both_init
  b_Both_init : Binds K A.d_Both_init ["self", "one", "other"] []
  k_Both_init : PySem.W.keepIn K (.ref A.f_Both_init) = true
  mk_Both : Mk K A.c_Both A.f_Both_init
  F_Box_init : Fun K "__init__" "Box.__init__" s_Box_init A.f_Box_init A.d_Box_init
  b_Box_init : Binds K A.d_Box_init ["self", "top", "left", "bottom", "right"] []
  k_Box_init : PySem.W.keepIn K (.ref A.f_Box_init) = true
  mk_Box : Mk K A.c_Box A.f_Box_init
  F_Either_init : Fun K "__init__" "Either.__init__" s_Either_init A.f_Either_init A.d_Either_init
  b_Either_init : Binds K A.d_Either_init ["self", "one", "other"] []
  k_Either_init : PySem.W.keepIn K (.ref A.f_Either_init) = true
  mk_Either : Mk K A.c_Either A.f_Either_init
  F_Outside_init : Fun K "__init__" "Outside.__init__" s_Outside_init A.f_Outside_init A.d_Outside_init
  b_Outside_init : Binds K A.d_Outside_init ["self", "one"] []
  k_Outside_init : PySem.W.keepIn K (.ref A.f_Outside_init) = true
  mk_Outside : Mk K A.c_Outside A.f_Outside_init
  F_law_area : Fun K "_law_area" "_law_area" s_law_area A.f_law_area A.d_law_area
  b_law_area : Binds K A.d_law_area ["_law_tree_here"] []
  k_law_area : PySem.W.keepIn K (.ref A.f_law_area) = true
  m_law_area : mg "_law_area" = some (.ref A.f_law_area)
  F_law_cell_at : Fun K "_law_cell_at" "_law_cell_at" s_law_cell_at A.f_law_cell_at A.d_law_cell_at
  b_law_cell_at : Binds K A.d_law_cell_at ["_law_script", "_law_k"] []
  k_law_cell_at : PySem.W.keepIn K (.ref A.f_law_cell_at) = true
  m_law_cell_at : mg "_law_cell_at" = some (.ref A.f_law_cell_at)
  F_law_corners : Fun K "_law_corners" "_law_corners" s_law_corners A.f_law_corners A.d_law_corners
  b_law_corners : Binds K A.d_law_corners ["_law_tree_here"] []
  k_law_corners : PySem.W.keepIn K (.ref A.f_law_corners) = true
  m_law_corners : mg "_law_corners" = some (.ref A.f_law_corners)
  F_law_has : Fun K "_law_has" "_law_has" s_law_has A.f_law_has A.d_law_has
  b_law_has : Binds K A.d_law_has ["_law_tree_here", "_law_cell"] []
  k_law_has : PySem.W.keepIn K (.ref A.f_law_has) = true
  m_law_has : mg "_law_has" = some (.ref A.f_law_has)
  F_law_number : Fun K "_law_number" "_law_number" s_law_number A.f_law_number A.d_law_number
  b_law_number : Binds K A.d_law_number ["_law_cell"] []
  k_law_number : PySem.W.keepIn K (.ref A.f_law_number) = true
  m_law_number : mg "_law_number" = some (.ref A.f_law_number)
  F_law_leaf : Fun K "_law_leaf" "_law_leaf" s_law_leaf A.f_law_leaf A.d_law_leaf
  b_law_leaf : Binds K A.d_law_leaf ["_law_cell"] []
  k_law_leaf : PySem.W.keepIn K (.ref A.f_law_leaf) = true
  m_law_leaf : mg "_law_leaf" = some (.ref A.f_law_leaf)
  F_law_tree : Fun K "_law_tree" "_law_tree" s_law_tree A.f_law_tree A.d_law_tree
  b_law_tree : Binds K A.d_law_tree ["_law_cells"] []
  k_law_tree : PySem.W.keepIn K (.ref A.f_law_tree) = true
  m_law_tree : mg "_law_tree" = some (.ref A.f_law_tree)
  F_law : Fun K "law" "law" s_law A.f_law A.d_law
  b_law : Binds K A.d_law ["_law_script"] []
  k_law : PySem.W.keepIn K (.ref A.f_law) = true
  m_law : mg "law" = some (.ref A.f_law)
  cl_Area : Cls K A.c_Area
  mc_Area : mg "Area" = some (.ref A.c_Area)
  cl_Both : Cls K A.c_Both
  mc_Both : mg "Both" = some (.ref A.c_Both)
  n_Both_one : NoAttr K A.c_Both "one"
  n_Both_other : NoAttr K A.c_Both "other"
  cl_Box : Cls K A.c_Box
  mc_Box : mg "Box" = some (.ref A.c_Box)
  n_Box_bottom : NoAttr K A.c_Box "bottom"
  n_Box_left : NoAttr K A.c_Box "left"
  n_Box_right : NoAttr K A.c_Box "right"
  n_Box_top : NoAttr K A.c_Box "top"
  cl_Either : Cls K A.c_Either
  mc_Either : mg "Either" = some (.ref A.c_Either)
  n_Either_one : NoAttr K A.c_Either "one"
  n_Either_other : NoAttr K A.c_Either "other"
  cl_Everywhere : Cls K A.c_Everywhere
  mc_Everywhere : mg "Everywhere" = some (.ref A.c_Everywhere)
  cl_Outside : Cls K A.c_Outside
  mc_Outside : mg "Outside" = some (.ref A.c_Outside)
  n_Outside_one : NoAttr K A.c_Outside "one"
  mp_Everywhere : MkP K A.c_Everywhere
  io_Area : ∀ x ∈ tab_Area A, TyC K x.1 ∧ PySem.W.kitOne K (.ref x.1) (.ref A.c_Area) = some x.2
  z_bool : mg "bool" = none
  z_isinstance : mg "isinstance" = none
  z_len : mg "len" = none
  z_range : mg "range" = none
theorem vals_non1 : Vals [.non] [.none] := .cons rfl .nil
theorem reps_non1 {K : PySem.W.Frag} (H : Hp) : Reps K H [.non] [.non] := .cons .non .nil
section
variable {P : Program} {w : World} {K : PySem.W.Frag} {mg : Str → Option Value} {base : Heap} {A : Adr}
theorem sc_Box_has : FnScope ["self", "cell"] ["self", "cell"] (defScope s_Box_has) := ⟨rfl, rfl, rfl, by decide +kernel, rfl, by decide +kernel, by decide +kernel⟩
theorem ok_Box_has (T : Txt K w mg A) : FnOk P w K mg base CX0 1 A.f_Box_has A.d_Box_has ["self", "cell"] (lowSp K (sp_Box_has A)) := by
  refine fun_ok2 T.F_Box_has sc_Box_has len_Box_has fun cdv A' outer s H E hr ws G Q E2 h => ⟨_, ?_, hd_Box_has A ws G Q E2 h⟩
  have nd := sc_Box_has.nd
  have hu1 := hu_of hr
  have hu40 : (A'.deeper (envOfC "Box.has" (defScope s_Box_has) s.heap.objs.size A.f_Box_has cdv)).units + 40 < cLine := by have := hr.units; omega
  exact (ss_one (s_ret (e_and (e_cmp o_le (e_fld T.cl_Box T.n_Box_top (e_var 0)) (e_ix hu1 (e_var 1) e_int) (nomark _)) (e_and (e_cmp o_le (e_ix hu1 (e_var 1) e_int) (e_fld T.cl_Box T.n_Box_bottom (e_var 0)) (nomark _)) (e_and (e_cmp o_le (e_fld T.cl_Box T.n_Box_left (e_var 0)) (e_ix hu1 (e_var 1) e_int) (nomark _)) (e_one (e_cmp o_le (e_ix hu1 (e_var 1) e_int) (e_fld T.cl_Box T.n_Box_right (e_var 0)) (nomark _))))))))
theorem sc_Everywhere_has : FnScope ["self", "cell"] ["self", "cell"] (defScope s_Everywhere_has) := ⟨rfl, rfl, rfl, by decide +kernel, rfl, by decide +kernel, by decide +kernel⟩
theorem ok_Everywhere_has (T : Txt K w mg A) : FnOk P w K mg base CX0 1 A.f_Everywhere_has A.d_Everywhere_has ["self", "cell"] (lowSp K (sp_Everywhere_has A)) := by
  refine fun_ok2 T.F_Everywhere_has sc_Everywhere_has len_Everywhere_has fun cdv A' outer s H E hr ws G Q E2 h => ⟨_, ?_, hd_Everywhere_has A ws G Q E2 h⟩
  have nd := sc_Everywhere_has.nd
  have hu1 := hu_of hr
  have hu40 : (A'.deeper (envOfC "Everywhere.has" (defScope s_Everywhere_has) s.heap.objs.size A.f_Everywhere_has cdv)).units + 40 < cLine := by have := hr.units; omega
  exact (ss_one (s_ret e_bl))
theorem sc_Both_has : FnScope ["self", "cell"] ["self", "cell"] (defScope s_Both_has) := ⟨rfl, rfl, rfl, by decide +kernel, rfl, by decide +kernel, by decide +kernel⟩
theorem ok_Both_has (T : Txt K w mg A) (n : Nat) (G_Both_has : FnOk P w K mg base CX0 (2 + n) A.f_Both_has A.d_Both_has ["self", "cell"] (lowSp K (sp_Both_has A n))) (G_Box_has : FnOk P w K mg base CX0 1 A.f_Box_has A.d_Box_has ["self", "cell"] (lowSp K (sp_Box_has A))) (G_Either_has : FnOk P w K mg base CX0 (2 + n) A.f_Either_has A.d_Either_has ["self", "cell"] (lowSp K (sp_Either_has A n))) (G_Everywhere_has : FnOk P w K mg base CX0 1 A.f_Everywhere_has A.d_Everywhere_has ["self", "cell"] (lowSp K (sp_Everywhere_has A))) (G_Outside_has : FnOk P w K mg base CX0 (2 + n) A.f_Outside_has A.d_Outside_has ["self", "cell"] (lowSp K (sp_Outside_has A n))) : FnOk P w K mg base CX0 (2 + n + 1) A.f_Both_has A.d_Both_has ["self", "cell"] (lowSp K (sp_Both_has A (n + 1))) := by
  refine fun_ok2 T.F_Both_has sc_Both_has len_Both_has fun cdv A' outer s H E hr ws G Q E2 h => ⟨_, ?_, hd_Both_has A n ws G Q E2 h⟩
  have nd := sc_Both_has.nd
  have hu1 := hu_of hr
  have hu40 : (A'.deeper (envOfC "Both.has" (defScope s_Both_has) s.heap.objs.size A.f_Both_has cdv)).units + 40 < cLine := by have := hr.units; omega
  exact (ss_one (s_ret (e_and (e_alt (e_meth (e_fld T.cl_Both T.n_Both_one (e_var 0)) T.cl_Everywhere T.me_Everywhere_has G_Everywhere_has (hr.mono (by omega)) T.b_Everywhere_has (a_cons (e_var 1) a_nil)) (e_alt (e_meth (e_fld T.cl_Both T.n_Both_one (e_var 0)) T.cl_Box T.me_Box_has G_Box_has (hr.mono (by omega)) T.b_Box_has (a_cons (e_var 1) a_nil)) (e_alt (e_meth (e_fld T.cl_Both T.n_Both_one (e_var 0)) T.cl_Both T.me_Both_has G_Both_has (hr.mono (by omega)) T.b_Both_has (a_cons (e_var 1) a_nil)) (e_alt (e_meth (e_fld T.cl_Both T.n_Both_one (e_var 0)) T.cl_Either T.me_Either_has G_Either_has (hr.mono (by omega)) T.b_Either_has (a_cons (e_var 1) a_nil)) (e_meth (e_fld T.cl_Both T.n_Both_one (e_var 0)) T.cl_Outside T.me_Outside_has G_Outside_has (hr.mono (by omega)) T.b_Outside_has (a_cons (e_var 1) a_nil)))))) (e_one (e_alt (e_meth (e_fld T.cl_Both T.n_Both_other (e_var 0)) T.cl_Everywhere T.me_Everywhere_has G_Everywhere_has (hr.mono (by omega)) T.b_Everywhere_has (a_cons (e_var 1) a_nil)) (e_alt (e_meth (e_fld T.cl_Both T.n_Both_other (e_var 0)) T.cl_Box T.me_Box_has G_Box_has (hr.mono (by omega)) T.b_Box_has (a_cons (e_var 1) a_nil)) (e_alt (e_meth (e_fld T.cl_Both T.n_Both_other (e_var 0)) T.cl_Both T.me_Both_has G_Both_has (hr.mono (by omega)) T.b_Both_has (a_cons (e_var 1) a_nil)) (e_alt (e_meth (e_fld T.cl_Both T.n_Both_other (e_var 0)) T.cl_Either T.me_Either_has G_Either_has (hr.mono (by omega)) T.b_Either_has (a_cons (e_var 1) a_nil)) (e_meth (e_fld T.cl_Both T.n_Both_other (e_var 0)) T.cl_Outside T.me_Outside_has G_Outside_has (hr.mono (by omega)) T.b_Outside_has (a_cons (e_var 1) a_nil))))))))))
theorem sc_Either_has : FnScope ["self", "cell"] ["self", "cell"] (defScope s_Either_has) := ⟨rfl, rfl, rfl, by decide +kernel, rfl, by decide +kernel, by decide +kernel⟩
theorem ok_Either_has (T : Txt K w mg A) (n : Nat) (G_Both_has : FnOk P w K mg base CX0 (2 + n) A.f_Both_has A.d_Both_has ["self", "cell"] (lowSp K (sp_Both_has A n))) (G_Box_has : FnOk P w K mg base CX0 1 A.f_Box_has A.d_Box_has ["self", "cell"] (lowSp K (sp_Box_has A))) (G_Either_has : FnOk P w K mg base CX0 (2 + n) A.f_Either_has A.d_Either_has ["self", "cell"] (lowSp K (sp_Either_has A n))) (G_Everywhere_has : FnOk P w K mg base CX0 1 A.f_Everywhere_has A.d_Everywhere_has ["self", "cell"] (lowSp K (sp_Everywhere_has A))) (G_Outside_has : FnOk P w K mg base CX0 (2 + n) A.f_Outside_has A.d_Outside_has ["self", "cell"] (lowSp K (sp_Outside_has A n))) : FnOk P w K mg base CX0 (2 + n + 1) A.f_Either_has A.d_Either_has ["self", "cell"] (lowSp K (sp_Either_has A (n + 1))) := by
  refine fun_ok2 T.F_Either_has sc_Either_has len_Either_has fun cdv A' outer s H E hr ws G Q E2 h => ⟨_, ?_, hd_Either_has A n ws G Q E2 h⟩
  have nd := sc_Either_has.nd
  have hu1 := hu_of hr
  have hu40 : (A'.deeper (envOfC "Either.has" (defScope s_Either_has) s.heap.objs.size A.f_Either_has cdv)).units + 40 < cLine := by have := hr.units; omega
  exact (ss_one (s_ret (e_or (e_alt (e_meth (e_fld T.cl_Either T.n_Either_one (e_var 0)) T.cl_Everywhere T.me_Everywhere_has G_Everywhere_has (hr.mono (by omega)) T.b_Everywhere_has (a_cons (e_var 1) a_nil)) (e_alt (e_meth (e_fld T.cl_Either T.n_Either_one (e_var 0)) T.cl_Box T.me_Box_has G_Box_has (hr.mono (by omega)) T.b_Box_has (a_cons (e_var 1) a_nil)) (e_alt (e_meth (e_fld T.cl_Either T.n_Either_one (e_var 0)) T.cl_Both T.me_Both_has G_Both_has (hr.mono (by omega)) T.b_Both_has (a_cons (e_var 1) a_nil)) (e_alt (e_meth (e_fld T.cl_Either T.n_Either_one (e_var 0)) T.cl_Either T.me_Either_has G_Either_has (hr.mono (by omega)) T.b_Either_has (a_cons (e_var 1) a_nil)) (e_meth (e_fld T.cl_Either T.n_Either_one (e_var 0)) T.cl_Outside T.me_Outside_has G_Outside_has (hr.mono (by omega)) T.b_Outside_has (a_cons (e_var 1) a_nil)))))) (e_one (e_alt (e_meth (e_fld T.cl_Either T.n_Either_other (e_var 0)) T.cl_Everywhere T.me_Everywhere_has G_Everywhere_has (hr.mono (by omega)) T.b_Everywhere_has (a_cons (e_var 1) a_nil)) (e_alt (e_meth (e_fld T.cl_Either T.n_Either_other (e_var 0)) T.cl_Box T.me_Box_has G_Box_has (hr.mono (by omega)) T.b_Box_has (a_cons (e_var 1) a_nil)) (e_alt (e_meth (e_fld T.cl_Either T.n_Either_other (e_var 0)) T.cl_Both T.me_Both_has G_Both_has (hr.mono (by omega)) T.b_Both_has (a_cons (e_var 1) a_nil)) (e_alt (e_meth (e_fld T.cl_Either T.n_Either_other (e_var 0)) T.cl_Either T.me_Either_has G_Either_has (hr.mono (by omega)) T.b_Either_has (a_cons (e_var 1) a_nil)) (e_meth (e_fld T.cl_Either T.n_Either_other (e_var 0)) T.cl_Outside T.me_Outside_has G_Outside_has (hr.mono (by omega)) T.b_Outside_has (a_cons (e_var 1) a_nil))))))))))
theorem sc_Outside_has : FnScope ["self", "cell"] ["self", "cell"] (defScope s_Outside_has) := ⟨rfl, rfl, rfl, by decide +kernel, rfl, by decide +kernel, by decide +kernel⟩
theorem ok_Outside_has (T : Txt K w mg A) (n : Nat) (G_Both_has : FnOk P w K mg base CX0 (2 + n) A.f_Both_has A.d_Both_has ["self", "cell"] (lowSp K (sp_Both_has A n))) (G_Box_has : FnOk P w K mg base CX0 1 A.f_Box_has A.d_Box_has ["self", "cell"] (lowSp K (sp_Box_has A))) (G_Either_has : FnOk P w K mg base CX0 (2 + n) A.f_Either_has A.d_Either_has ["self", "cell"] (lowSp K (sp_Either_has A n))) (G_Everywhere_has : FnOk P w K mg base CX0 1 A.f_Everywhere_has A.d_Everywhere_has ["self", "cell"] (lowSp K (sp_Everywhere_has A))) (G_Outside_has : FnOk P w K mg base CX0 (2 + n) A.f_Outside_has A.d_Outside_has ["self", "cell"] (lowSp K (sp_Outside_has A n))) : FnOk P w K mg base CX0 (2 + n + 1) A.f_Outside_has A.d_Outside_has ["self", "cell"] (lowSp K (sp_Outside_has A (n + 1))) := by
  refine fun_ok2 T.F_Outside_has sc_Outside_has len_Outside_has fun cdv A' outer s H E hr ws G Q E2 h => ⟨_, ?_, hd_Outside_has A n ws G Q E2 h⟩
  have nd := sc_Outside_has.nd
  have hu1 := hu_of hr
  have hu40 : (A'.deeper (envOfC "Outside.has" (defScope s_Outside_has) s.heap.objs.size A.f_Outside_has cdv)).units + 40 < cLine := by have := hr.units; omega
  exact (ss_one (s_ret (e_not (e_alt (e_meth (e_fld T.cl_Outside T.n_Outside_one (e_var 0)) T.cl_Everywhere T.me_Everywhere_has G_Everywhere_has (hr.mono (by omega)) T.b_Everywhere_has (a_cons (e_var 1) a_nil)) (e_alt (e_meth (e_fld T.cl_Outside T.n_Outside_one (e_var 0)) T.cl_Box T.me_Box_has G_Box_has (hr.mono (by omega)) T.b_Box_has (a_cons (e_var 1) a_nil)) (e_alt (e_meth (e_fld T.cl_Outside T.n_Outside_one (e_var 0)) T.cl_Both T.me_Both_has G_Both_has (hr.mono (by omega)) T.b_Both_has (a_cons (e_var 1) a_nil)) (e_alt (e_meth (e_fld T.cl_Outside T.n_Outside_one (e_var 0)) T.cl_Either T.me_Either_has G_Either_has (hr.mono (by omega)) T.b_Either_has (a_cons (e_var 1) a_nil)) (e_meth (e_fld T.cl_Outside T.n_Outside_one (e_var 0)) T.cl_Outside T.me_Outside_has G_Outside_has (hr.mono (by omega)) T.b_Outside_has (a_cons (e_var 1) a_nil)))))))))
theorem ok_group_Both_has (T : Txt K w mg A) (G_Box_has : FnOk P w K mg base CX0 1 A.f_Box_has A.d_Box_has ["self", "cell"] (lowSp K (sp_Box_has A))) (G_Everywhere_has : FnOk P w K mg base CX0 1 A.f_Everywhere_has A.d_Everywhere_has ["self", "cell"] (lowSp K (sp_Everywhere_has A))) : ∀ n, FnOk P w K mg base CX0 (2 + n) A.f_Both_has A.d_Both_has ["self", "cell"] (lowSp K (sp_Both_has A n)) ∧ FnOk P w K mg base CX0 (2 + n) A.f_Either_has A.d_Either_has ["self", "cell"] (lowSp K (sp_Either_has A n)) ∧ FnOk P w K mg base CX0 (2 + n) A.f_Outside_has A.d_Outside_has ["self", "cell"] (lowSp K (sp_Outside_has A n)) := by
  intro n
  induction n with
  | zero => exact ⟨fun_ok0 (k := 1) T.F_Both_has sc_Both_has no_Both_has, fun_ok0 (k := 1) T.F_Either_has sc_Either_has no_Either_has, fun_ok0 (k := 1) T.F_Outside_has sc_Outside_has no_Outside_has⟩
  | succ n ih =>
    obtain ⟨G_Both_has, G_Either_has, G_Outside_has⟩ := ih
    exact ⟨ok_Both_has T n G_Both_has G_Box_has G_Either_has G_Everywhere_has G_Outside_has, ok_Either_has T n G_Both_has G_Box_has G_Either_has G_Everywhere_has G_Outside_has, ok_Outside_has T n G_Both_has G_Box_has G_Either_has G_Everywhere_has G_Outside_has⟩
theorem sc_Both_init : FnScope ["self", "one", "other"] ["self", "one", "other"] (defScope s_Both_init) := ⟨rfl, rfl, rfl, by decide +kernel, rfl, by decide +kernel, by decide +kernel⟩
theorem ok_Both_init (T : Txt K w mg A) : FnOk P w K mg base CX0 1 A.f_Both_init A.d_Both_init ["self", "one", "other"] (lowSp K (sp_Both_init A)) := by
  refine fun_ok2 T.F_Both_init sc_Both_init len_Both_init fun cdv A' outer s H E hr ws G Q E2 h => ⟨_, ?_, hd_Both_init A ws G Q E2 h⟩
  have nd := sc_Both_init.nd
  have hu1 := hu_of hr
  have hu40 : (A'.deeper (envOfC "Both.__init__" (defScope s_Both_init) s.heap.objs.size A.f_Both_init cdv)).units + 40 < cLine := by have := hr.units; omega
  exact (ss_cons (s_fld T.cl_Both T.n_Both_one (e_var 0) (e_var 1)) (ss_one (s_fld T.cl_Both T.n_Both_other (e_var 0) (e_var 2))))
theorem sc_Box_init : FnScope ["self", "top", "left", "bottom", "right"] ["self", "top", "left", "bottom", "right"] (defScope s_Box_init) := ⟨rfl, rfl, rfl, by decide +kernel, rfl, by decide +kernel, by decide +kernel⟩
theorem ok_Box_init (T : Txt K w mg A) : FnOk P w K mg base CX0 1 A.f_Box_init A.d_Box_init ["self", "top", "left", "bottom", "right"] (lowSp K (sp_Box_init A)) := by
  refine fun_ok2 T.F_Box_init sc_Box_init len_Box_init fun cdv A' outer s H E hr ws G Q E2 h => ⟨_, ?_, hd_Box_init A ws G Q E2 h⟩
  have nd := sc_Box_init.nd
  have hu1 := hu_of hr
  have hu40 : (A'.deeper (envOfC "Box.__init__" (defScope s_Box_init) s.heap.objs.size A.f_Box_init cdv)).units + 40 < cLine := by have := hr.units; omega
  exact (ss_cons (s_fld T.cl_Box T.n_Box_top (e_var 0) (e_var 1)) (ss_cons (s_fld T.cl_Box T.n_Box_left (e_var 0) (e_var 2)) (ss_cons (s_fld T.cl_Box T.n_Box_bottom (e_var 0) (e_var 3)) (ss_one (s_fld T.cl_Box T.n_Box_right (e_var 0) (e_var 4))))))
theorem sc_Either_init : FnScope ["self", "one", "other"] ["self", "one", "other"] (defScope s_Either_init) := ⟨rfl, rfl, rfl, by decide +kernel, rfl, by decide +kernel, by decide +kernel⟩
theorem ok_Either_init (T : Txt K w mg A) : FnOk P w K mg base CX0 1 A.f_Either_init A.d_Either_init ["self", "one", "other"] (lowSp K (sp_Either_init A)) := by
  refine fun_ok2 T.F_Either_init sc_Either_init len_Either_init fun cdv A' outer s H E hr ws G Q E2 h => ⟨_, ?_, hd_Either_init A ws G Q E2 h⟩
  have nd := sc_Either_init.nd
  have hu1 := hu_of hr
  have hu40 : (A'.deeper (envOfC "Either.__init__" (defScope s_Either_init) s.heap.objs.size A.f_Either_init cdv)).units + 40 < cLine := by have := hr.units; omega
  exact (ss_cons (s_fld T.cl_Either T.n_Either_one (e_var 0) (e_var 1)) (ss_one (s_fld T.cl_Either T.n_Either_other (e_var 0) (e_var 2))))
theorem sc_Outside_init : FnScope ["self", "one"] ["self", "one"] (defScope s_Outside_init) := ⟨rfl, rfl, rfl, by decide +kernel, rfl, by decide +kernel, by decide +kernel⟩
theorem ok_Outside_init (T : Txt K w mg A) : FnOk P w K mg base CX0 1 A.f_Outside_init A.d_Outside_init ["self", "one"] (lowSp K (sp_Outside_init A)) := by
  refine fun_ok2 T.F_Outside_init sc_Outside_init len_Outside_init fun cdv A' outer s H E hr ws G Q E2 h => ⟨_, ?_, hd_Outside_init A ws G Q E2 h⟩
  have nd := sc_Outside_init.nd
  have hu1 := hu_of hr
  have hu40 : (A'.deeper (envOfC "Outside.__init__" (defScope s_Outside_init) s.heap.objs.size A.f_Outside_init cdv)).units + 40 < cLine := by have := hr.units; omega
  exact (ss_one (s_fld T.cl_Outside T.n_Outside_one (e_var 0) (e_var 1)))
theorem sc_law_area : FnScope ["_law_tree_here"] ["_law_tree_here"] (defScope s_law_area) := ⟨rfl, rfl, rfl, by decide +kernel, rfl, by decide +kernel, by decide +kernel⟩
theorem ok_law_area (T : Txt K w mg A) (n : Nat) (G_Both_init : FnOk P w K mg base CX0 1 A.f_Both_init A.d_Both_init ["self", "one", "other"] (lowSp K (sp_Both_init A))) (G_Box_init : FnOk P w K mg base CX0 1 A.f_Box_init A.d_Box_init ["self", "top", "left", "bottom", "right"] (lowSp K (sp_Box_init A))) (G_Either_init : FnOk P w K mg base CX0 1 A.f_Either_init A.d_Either_init ["self", "one", "other"] (lowSp K (sp_Either_init A))) (G_Outside_init : FnOk P w K mg base CX0 1 A.f_Outside_init A.d_Outside_init ["self", "one"] (lowSp K (sp_Outside_init A))) (G_law_area : FnOk P w K mg base CX0 (4 + n) A.f_law_area A.d_law_area ["_law_tree_here"] (lowSp K (sp_law_area A n))) : FnOk P w K mg base CX0 (4 + n + 1) A.f_law_area A.d_law_area ["_law_tree_here"] (lowSp K (sp_law_area A (n + 1))) := by
  refine fun_ok2 T.F_law_area sc_law_area len_law_area fun cdv A' outer s H E hr ws G Q E2 h => ⟨_, ?_, hd_law_area A n ws G Q E2 h⟩
  have nd := sc_law_area.nd
  have hu1 := hu_of hr
  have hu40 : (A'.deeper (envOfC "_law_area" (defScope s_law_area) s.heap.objs.size A.f_law_area cdv)).units + 40 < cLine := by have := hr.units; omega
  exact (ss_cons (s_if (t_cmp (o_eq hu40) (e_ix hu1 (e_var 0) e_int) e_str (nomark _)) (ss_one (s_ret (e_makeP T.mp_Everywhere rfl T.mc_Everywhere))) ss_nil) (ss_cons (s_if (t_cmp (o_eq hu40) (e_ix hu1 (e_var 0) e_int) e_str (nomark _)) (ss_one (s_ret (e_make T.mk_Box G_Box_init (hr.mono (by omega)) rfl T.mc_Box T.b_Box_init (a_cons (e_ix hu1 (e_var 0) e_int) (a_cons (e_ix hu1 (e_var 0) e_int) (a_cons (e_ix hu1 (e_var 0) e_int) (a_cons (e_ix hu1 (e_var 0) e_int) a_nil))))))) ss_nil) (ss_cons (s_if (t_cmp (o_eq hu40) (e_ix hu1 (e_var 0) e_int) e_str (nomark _)) (ss_one (s_ret (e_make T.mk_Outside G_Outside_init (hr.mono (by omega)) rfl T.mc_Outside T.b_Outside_init (a_cons (e_call G_law_area (hr.mono (by omega)) rfl T.m_law_area T.k_law_area T.b_law_area (a_cons (e_ix hu1 (e_var 0) e_int) a_nil)) a_nil)))) ss_nil) (ss_cons (s_if (t_cmp (o_eq hu40) (e_ix hu1 (e_var 0) e_int) e_str (nomark _)) (ss_one (s_ret (e_make T.mk_Both G_Both_init (hr.mono (by omega)) rfl T.mc_Both T.b_Both_init (a_cons (e_call G_law_area (hr.mono (by omega)) rfl T.m_law_area T.k_law_area T.b_law_area (a_cons (e_ix hu1 (e_var 0) e_int) a_nil)) (a_cons (e_call G_law_area (hr.mono (by omega)) rfl T.m_law_area T.k_law_area T.b_law_area (a_cons (e_ix hu1 (e_var 0) e_int) a_nil)) a_nil))))) ss_nil) (ss_one (s_ret (e_make T.mk_Either G_Either_init (hr.mono (by omega)) rfl T.mc_Either T.b_Either_init (a_cons (e_call G_law_area (hr.mono (by omega)) rfl T.m_law_area T.k_law_area T.b_law_area (a_cons (e_ix hu1 (e_var 0) e_int) a_nil)) (a_cons (e_call G_law_area (hr.mono (by omega)) rfl T.m_law_area T.k_law_area T.b_law_area (a_cons (e_ix hu1 (e_var 0) e_int) a_nil)) a_nil)))))))))
theorem ok_group_law_area (T : Txt K w mg A) (G_Both_init : FnOk P w K mg base CX0 1 A.f_Both_init A.d_Both_init ["self", "one", "other"] (lowSp K (sp_Both_init A))) (G_Box_init : FnOk P w K mg base CX0 1 A.f_Box_init A.d_Box_init ["self", "top", "left", "bottom", "right"] (lowSp K (sp_Box_init A))) (G_Either_init : FnOk P w K mg base CX0 1 A.f_Either_init A.d_Either_init ["self", "one", "other"] (lowSp K (sp_Either_init A))) (G_Outside_init : FnOk P w K mg base CX0 1 A.f_Outside_init A.d_Outside_init ["self", "one"] (lowSp K (sp_Outside_init A))) : ∀ n, FnOk P w K mg base CX0 (4 + n) A.f_law_area A.d_law_area ["_law_tree_here"] (lowSp K (sp_law_area A n)) := by
  intro n
  induction n with
  | zero => exact fun_ok0 (k := 3) T.F_law_area sc_law_area no_law_area
  | succ n ih =>
    have G_law_area := ih
    exact ok_law_area T n G_Both_init G_Box_init G_Either_init G_Outside_init G_law_area
theorem sc_law_cell_at : FnScope ["_law_script", "_law_k"] ["_law_script", "_law_k"] (defScope s_law_cell_at) := ⟨rfl, rfl, rfl, by decide +kernel, rfl, by decide +kernel, by decide +kernel⟩
theorem ok_law_cell_at (T : Txt K w mg A) : FnOk P w K mg base CX0 1 A.f_law_cell_at A.d_law_cell_at ["_law_script", "_law_k"] (lowSp K (sp_law_cell_at A)) := by
  refine fun_ok2 T.F_law_cell_at sc_law_cell_at len_law_cell_at fun cdv A' outer s H E hr ws G Q E2 h => ⟨_, ?_, hd_law_cell_at A ws G Q E2 h⟩
  have nd := sc_law_cell_at.nd
  have hu1 := hu_of hr
  have hu40 : (A'.deeper (envOfC "_law_cell_at" (defScope s_law_cell_at) s.heap.objs.size A.f_law_cell_at cdv)).units + 40 < cLine := by have := hr.units; omega
  exact (ss_cons (s_if (t_cmp o_lt (e_var 1) (e_b_len rfl T.z_len (a_cons (e_var 0) a_nil)) (nomark _)) (ss_one (s_ret (e_ix hu1 (e_var 0) (e_var 1)))) ss_nil) (ss_one (s_ret e_int)))
theorem sc_law_corners : FnScope ["_law_tree_here"] ["_law_tree_here"] (defScope s_law_corners) := ⟨rfl, rfl, rfl, by decide +kernel, rfl, by decide +kernel, by decide +kernel⟩
theorem ok_law_corners (T : Txt K w mg A) (n : Nat) (G_law_corners : FnOk P w K mg base CX0 (1 + n) A.f_law_corners A.d_law_corners ["_law_tree_here"] (lowSp K (sp_law_corners A n))) : FnOk P w K mg base CX0 (1 + n + 1) A.f_law_corners A.d_law_corners ["_law_tree_here"] (lowSp K (sp_law_corners A (n + 1))) := by
  refine fun_ok2 T.F_law_corners sc_law_corners len_law_corners fun cdv A' outer s H E hr ws G Q E2 h => ⟨_, ?_, hd_law_corners A n ws G Q E2 h⟩
  have nd := sc_law_corners.nd
  have hu1 := hu_of hr
  have hu40 : (A'.deeper (envOfC "_law_corners" (defScope s_law_corners) s.heap.objs.size A.f_law_corners cdv)).units + 40 < cLine := by have := hr.units; omega
  exact (ss_cons (s_if (t_cmp (o_eq hu40) (e_ix hu1 (e_var 0) e_int) e_str (nomark _)) (ss_one (s_ret (e_lst (a_cons (e_tup (a_cons (e_ix hu1 (e_var 0) e_int) (a_cons (e_ix hu1 (e_var 0) e_int) a_nil))) (a_cons (e_tup (a_cons (e_ix hu1 (e_var 0) e_int) (a_cons (e_ix hu1 (e_var 0) e_int) a_nil))) a_nil))))) ss_nil) (ss_cons (s_if (t_cmp (o_eq hu40) (e_ix hu1 (e_var 0) e_int) e_str (nomark _)) (ss_one (s_ret (e_call G_law_corners (hr.mono (by omega)) rfl T.m_law_corners T.k_law_corners T.b_law_corners (a_cons (e_ix hu1 (e_var 0) e_int) a_nil)))) ss_nil) (ss_cons (s_if (t_cmp (o_eq hu40) (e_b_len rfl T.z_len (a_cons (e_var 0) a_nil)) e_int (nomark _)) (ss_one (s_ret (e_op o_add (e_call G_law_corners (hr.mono (by omega)) rfl T.m_law_corners T.k_law_corners T.b_law_corners (a_cons (e_ix hu1 (e_var 0) e_int) a_nil)) (e_call G_law_corners (hr.mono (by omega)) rfl T.m_law_corners T.k_law_corners T.b_law_corners (a_cons (e_ix hu1 (e_var 0) e_int) a_nil))))) ss_nil) (ss_one (s_ret (e_lst (a_cons (e_tup (a_cons e_int (a_cons e_int a_nil))) a_nil)))))))
theorem ok_group_law_corners (T : Txt K w mg A) : ∀ n, FnOk P w K mg base CX0 (1 + n) A.f_law_corners A.d_law_corners ["_law_tree_here"] (lowSp K (sp_law_corners A n)) := by
  intro n
  induction n with
  | zero => exact fun_ok0 (k := 0) T.F_law_corners sc_law_corners no_law_corners
  | succ n ih =>
    have G_law_corners := ih
    exact ok_law_corners T n G_law_corners
theorem sc_law_has : FnScope ["_law_tree_here", "_law_cell"] ["_law_tree_here", "_law_cell"] (defScope s_law_has) := ⟨rfl, rfl, rfl, by decide +kernel, rfl, by decide +kernel, by decide +kernel⟩
theorem ok_law_has (T : Txt K w mg A) (n : Nat) (G_law_has : FnOk P w K mg base CX0 (1 + n) A.f_law_has A.d_law_has ["_law_tree_here", "_law_cell"] (lowSp K (sp_law_has A n))) : FnOk P w K mg base CX0 (1 + n + 1) A.f_law_has A.d_law_has ["_law_tree_here", "_law_cell"] (lowSp K (sp_law_has A (n + 1))) := by
  refine fun_ok2 T.F_law_has sc_law_has len_law_has fun cdv A' outer s H E hr ws G Q E2 h => ⟨_, ?_, hd_law_has A n ws G Q E2 h⟩
  have nd := sc_law_has.nd
  have hu1 := hu_of hr
  have hu40 : (A'.deeper (envOfC "_law_has" (defScope s_law_has) s.heap.objs.size A.f_law_has cdv)).units + 40 < cLine := by have := hr.units; omega
  exact (ss_cons (s_if (t_cmp (o_eq hu40) (e_ix hu1 (e_var 0) e_int) e_str (nomark _)) (ss_one (s_ret e_bl)) ss_nil) (ss_cons (s_if (t_cmp (o_eq hu40) (e_ix hu1 (e_var 0) e_int) e_str (nomark _)) (ss_one (s_ret (e_and (e_chain o_le o_le (e_ix hu1 (e_var 0) e_int) (e_ix hu1 (e_var 1) e_int) (e_ix hu1 (e_var 0) e_int)) (e_one (e_chain o_le o_le (e_ix hu1 (e_var 0) e_int) (e_ix hu1 (e_var 1) e_int) (e_ix hu1 (e_var 0) e_int)))))) ss_nil) (ss_cons (s_if (t_cmp (o_eq hu40) (e_ix hu1 (e_var 0) e_int) e_str (nomark _)) (ss_one (s_ret (e_not (e_call G_law_has (hr.mono (by omega)) rfl T.m_law_has T.k_law_has T.b_law_has (a_cons (e_ix hu1 (e_var 0) e_int) (a_cons (e_var 1) a_nil)))))) ss_nil) (ss_cons (s_if (t_cmp (o_eq hu40) (e_ix hu1 (e_var 0) e_int) e_str (nomark _)) (ss_one (s_ret (e_and (e_call G_law_has (hr.mono (by omega)) rfl T.m_law_has T.k_law_has T.b_law_has (a_cons (e_ix hu1 (e_var 0) e_int) (a_cons (e_var 1) a_nil))) (e_one (e_call G_law_has (hr.mono (by omega)) rfl T.m_law_has T.k_law_has T.b_law_has (a_cons (e_ix hu1 (e_var 0) e_int) (a_cons (e_var 1) a_nil))))))) ss_nil) (ss_one (s_ret (e_or (e_call G_law_has (hr.mono (by omega)) rfl T.m_law_has T.k_law_has T.b_law_has (a_cons (e_ix hu1 (e_var 0) e_int) (a_cons (e_var 1) a_nil))) (e_one (e_call G_law_has (hr.mono (by omega)) rfl T.m_law_has T.k_law_has T.b_law_has (a_cons (e_ix hu1 (e_var 0) e_int) (a_cons (e_var 1) a_nil)))))))))))
theorem ok_group_law_has (T : Txt K w mg A) : ∀ n, FnOk P w K mg base CX0 (1 + n) A.f_law_has A.d_law_has ["_law_tree_here", "_law_cell"] (lowSp K (sp_law_has A n)) := by
  intro n
  induction n with
  | zero => exact fun_ok0 (k := 0) T.F_law_has sc_law_has no_law_has
  | succ n ih =>
    have G_law_has := ih
    exact ok_law_has T n G_law_has
theorem sc_law_number : FnScope ["_law_cell"] ["_law_cell"] (defScope s_law_number) := ⟨rfl, rfl, rfl, by decide +kernel, rfl, by decide +kernel, by decide +kernel⟩
theorem ok_law_number (T : Txt K w mg A) : FnOk P w K mg base CX0 1 A.f_law_number A.d_law_number ["_law_cell"] (lowSp K (sp_law_number A)) := by
  refine fun_ok2 T.F_law_number sc_law_number len_law_number fun cdv A' outer s H E hr ws G Q E2 h => ⟨_, ?_, hd_law_number A ws G Q E2 h⟩
  have nd := sc_law_number.nd
  have hu1 := hu_of hr
  have hu40 : (A'.deeper (envOfC "_law_number" (defScope s_law_number) s.heap.objs.size A.f_law_number cdv)).units + 40 < cLine := by have := hr.units; omega
  exact (ss_cons (s_if (t_cmp (o_eq hu40) (e_op o_mod (e_var 0) e_int) e_int (nomark _)) (ss_one (s_ret (e_op o_sub (e_op o_mod (e_op o_fdiv (e_var 0) e_int) (e_op o_pow e_int e_int)) (e_op o_mul e_int (e_op o_pow e_int e_int))))) ss_nil) (ss_one (s_ret (e_op o_sub (e_op o_mod (e_op o_fdiv (e_var 0) e_int) e_int) e_int))))
theorem sc_law_leaf : FnScope ["_law_cell", "_law_top", "_law_left"] ["_law_cell"] (defScope s_law_leaf) := ⟨rfl, rfl, rfl, by decide +kernel, rfl, by decide +kernel, by decide +kernel⟩
theorem ok_law_leaf (T : Txt K w mg A) (G_law_number : FnOk P w K mg base CX0 1 A.f_law_number A.d_law_number ["_law_cell"] (lowSp K (sp_law_number A))) : FnOk P w K mg base CX0 2 A.f_law_leaf A.d_law_leaf ["_law_cell"] (lowSp K (sp_law_leaf A)) := by
  refine fun_ok2 T.F_law_leaf sc_law_leaf len_law_leaf fun cdv A' outer s H E hr ws G Q E2 h => ⟨_, ?_, hd_law_leaf A ws G Q E2 h⟩
  have nd := sc_law_leaf.nd
  have hu1 := hu_of hr
  have hu40 : (A'.deeper (envOfC "_law_leaf" (defScope s_law_leaf) s.heap.objs.size A.f_law_leaf cdv)).units + 40 < cLine := by have := hr.units; omega
  exact (ss_cons (s_if (t_cmp (o_eq hu40) (e_op o_mod (e_var 0) e_int) e_int (nomark _)) (ss_one (s_ret (e_tup (a_cons e_str a_nil)))) ss_nil) (ss_cons (s_set (i := 1) nd rfl (by first | exact Or.inl rfl | exact Or.inr rfl) (e_call G_law_number (hr.mono (by decide)) rfl T.m_law_number T.k_law_number T.b_law_number (a_cons (e_op o_fdiv (e_var 0) e_int) a_nil))) (ss_cons (s_set (i := 2) nd rfl (by first | exact Or.inl rfl | exact Or.inr rfl) (e_call G_law_number (hr.mono (by decide)) rfl T.m_law_number T.k_law_number T.b_law_number (a_cons (e_op o_fdiv (e_var 0) e_int) a_nil))) (ss_one (s_ret (e_tup (a_cons e_str (a_cons (e_var 1) (a_cons (e_var 2) (a_cons (e_op o_sub (e_op o_add (e_var 1) (e_op o_mod (e_op o_fdiv (e_var 0) e_int) e_int)) e_int) (a_cons (e_op o_sub (e_op o_add (e_var 2) (e_op o_mod (e_op o_fdiv (e_var 0) e_int) e_int)) e_int) a_nil)))))))))))
theorem sc_law_tree : FnScope ["_law_cells", "_law_tree_here", "_law_cell", "_law_other"] ["_law_cells"] (defScope s_law_tree) := ⟨rfl, rfl, rfl, by decide +kernel, rfl, by decide +kernel, by decide +kernel⟩
theorem ok_law_tree (T : Txt K w mg A) (G_law_cell_at : FnOk P w K mg base CX0 1 A.f_law_cell_at A.d_law_cell_at ["_law_script", "_law_k"] (lowSp K (sp_law_cell_at A))) (G_law_leaf : FnOk P w K mg base CX0 2 A.f_law_leaf A.d_law_leaf ["_law_cell"] (lowSp K (sp_law_leaf A))) : FnOk P w K mg base CX0 3 A.f_law_tree A.d_law_tree ["_law_cells"] (lowSp K (sp_law_tree A)) := by
  refine fun_ok2 T.F_law_tree sc_law_tree len_law_tree fun cdv A' outer s H E hr ws G Q E2 h => ⟨_, ?_, hd_law_tree A ws G Q E2 h⟩
  have nd := sc_law_tree.nd
  have hu1 := hu_of hr
  have hu40 : (A'.deeper (envOfC "_law_tree" (defScope s_law_tree) s.heap.objs.size A.f_law_tree cdv)).units + 40 < cLine := by have := hr.units; omega
  exact (ss_cons (s_set (i := 1) nd rfl (by first | exact Or.inl rfl | exact Or.inr rfl) (e_call G_law_leaf (hr.mono (by decide)) rfl T.m_law_leaf T.k_law_leaf T.b_law_leaf (a_cons (e_call G_law_cell_at (hr.mono (by decide)) rfl T.m_law_cell_at T.k_law_cell_at T.b_law_cell_at (a_cons (e_var 0) (a_cons e_int a_nil))) a_nil))) (ss_cons (s_for PassesOwn.never rfl (e_slice (e_var 0) (p_some e_int) (p_some e_int)) (g_name (i := 2) nd rfl (by first | exact Or.inl rfl | exact Or.inr rfl)) (ss_cons (s_set (i := 3) nd rfl (by first | exact Or.inl rfl | exact Or.inr rfl) (e_call G_law_leaf (hr.mono (by decide)) rfl T.m_law_leaf T.k_law_leaf T.b_law_leaf (a_cons (e_op o_fdiv (e_var 2) e_int) a_nil))) (ss_one (s_if (t_cmp (o_eq hu40) (e_op o_mod (e_var 2) e_int) e_int (nomark _)) (ss_one (s_set (i := 1) nd rfl (by first | exact Or.inl rfl | exact Or.inr rfl) (e_tup (a_cons e_str (a_cons (e_var 1) a_nil))))) (ss_one (s_if (t_cmp (o_eq hu40) (e_op o_mod (e_var 2) e_int) e_int (nomark _)) (ss_one (s_set (i := 1) nd rfl (by first | exact Or.inl rfl | exact Or.inr rfl) (e_tup (a_cons e_str (a_cons (e_ix hu1 (e_lst (a_cons (e_var 1) (a_cons (e_var 3) a_nil))) (e_op o_mod (e_op o_fdiv (e_var 2) e_int) e_int)) (a_cons (e_ix hu1 (e_lst (a_cons (e_var 3) (a_cons (e_var 1) a_nil))) (e_op o_mod (e_op o_fdiv (e_var 2) e_int) e_int)) a_nil)))))) (ss_one (s_set (i := 1) nd rfl (by first | exact Or.inl rfl | exact Or.inr rfl) (e_tup (a_cons e_str (a_cons (e_ix hu1 (e_lst (a_cons (e_var 1) (a_cons (e_var 3) a_nil))) (e_op o_mod (e_op o_fdiv (e_var 2) e_int) e_int)) (a_cons (e_ix hu1 (e_lst (a_cons (e_var 3) (a_cons (e_var 1) a_nil))) (e_op o_mod (e_op o_fdiv (e_var 2) e_int) e_int)) a_nil)))))))))))) (ss_one (s_ret (e_var 1)))))
theorem sc_law : FnScope ["_law_script", "_law_tree_here", "_law_area_here", "_law_some", "_law_row", "_law_column", "_law_k", "_law_cell"] ["_law_script"] (defScope s_law) := ⟨rfl, rfl, rfl, by decide +kernel, rfl, by decide +kernel, by decide +kernel⟩
theorem ok_law (T : Txt K w mg A) (G_Both_has : FnOk P w K mg base CX0 18 A.f_Both_has A.d_Both_has ["self", "cell"] (lowSp K (sp_Both_has A 16))) (G_Box_has : FnOk P w K mg base CX0 1 A.f_Box_has A.d_Box_has ["self", "cell"] (lowSp K (sp_Box_has A))) (G_Either_has : FnOk P w K mg base CX0 18 A.f_Either_has A.d_Either_has ["self", "cell"] (lowSp K (sp_Either_has A 16))) (G_Everywhere_has : FnOk P w K mg base CX0 1 A.f_Everywhere_has A.d_Everywhere_has ["self", "cell"] (lowSp K (sp_Everywhere_has A))) (G_Outside_has : FnOk P w K mg base CX0 18 A.f_Outside_has A.d_Outside_has ["self", "cell"] (lowSp K (sp_Outside_has A 16))) (G_law_area : FnOk P w K mg base CX0 20 A.f_law_area A.d_law_area ["_law_tree_here"] (lowSp K (sp_law_area A 16))) (G_law_cell_at : FnOk P w K mg base CX0 1 A.f_law_cell_at A.d_law_cell_at ["_law_script", "_law_k"] (lowSp K (sp_law_cell_at A))) (G_law_corners : FnOk P w K mg base CX0 17 A.f_law_corners A.d_law_corners ["_law_tree_here"] (lowSp K (sp_law_corners A 16))) (G_law_has : FnOk P w K mg base CX0 17 A.f_law_has A.d_law_has ["_law_tree_here", "_law_cell"] (lowSp K (sp_law_has A 16))) (G_law_number : FnOk P w K mg base CX0 1 A.f_law_number A.d_law_number ["_law_cell"] (lowSp K (sp_law_number A))) (G_law_tree : FnOk P w K mg base CX0 3 A.f_law_tree A.d_law_tree ["_law_cells"] (lowSp K (sp_law_tree A))) : FnOk P w K mg base CX0 21 A.f_law A.d_law ["_law_script"] (lowSp K (sp_law A)) := by
  refine fun_ok2 T.F_law sc_law len_law fun cdv A' outer s H E hr ws G Q E2 h => ⟨_, ?_, hd_law A ws G Q E2 h⟩
  have nd := sc_law.nd
  have hu1 := hu_of hr
  have hu40 : (A'.deeper (envOfC "law" (defScope s_law) s.heap.objs.size A.f_law cdv)).units + 40 < cLine := by have := hr.units; omega
  exact (ss_cons (s_set (i := 1) nd rfl (by first | exact Or.inl rfl | exact Or.inr rfl) (e_call G_law_tree (hr.mono (by decide)) rfl T.m_law_tree T.k_law_tree T.b_law_tree (a_cons (e_slice (e_var 0) (p_some e_int) (p_some (e_op o_add e_int (e_op o_mod (e_call G_law_cell_at (hr.mono (by decide)) rfl T.m_law_cell_at T.k_law_cell_at T.b_law_cell_at (a_cons (e_var 0) (a_cons e_int a_nil))) e_int)))) a_nil))) (ss_cons (s_set (i := 2) nd rfl (by first | exact Or.inl rfl | exact Or.inr rfl) (e_call G_law_area (hr.mono (by decide)) rfl T.m_law_area T.k_law_area T.b_law_area (a_cons (e_var 1) a_nil))) (ss_cons (s_if (t_not (t_val (e_isO T.io_Area rfl T.z_isinstance rfl T.mc_Area (e_var 2)))) (ss_one (s_ret e_bl)) ss_nil) (ss_cons (s_set (i := 3) nd rfl (by first | exact Or.inl rfl | exact Or.inr rfl) (e_lst (a_cons (e_tup (a_cons e_int (a_cons e_int a_nil))) (a_cons (e_tup (a_cons e_int (a_cons (e_op o_sub e_int e_int) a_nil))) a_nil)))) (ss_cons (s_for PassesOwn.never rfl (e_call G_law_corners (hr.mono (by decide)) rfl T.m_law_corners T.k_law_corners T.b_law_corners (a_cons (e_var 1) a_nil)) (g_tup rfl (gs_cons (g_name (i := 4) nd rfl (by first | exact Or.inl rfl | exact Or.inr rfl)) (gs_cons (g_name (i := 5) nd rfl (by first | exact Or.inl rfl | exact Or.inr rfl)) gs_nil))) (ss_one (s_set (i := 3) nd rfl (by first | exact Or.inl rfl | exact Or.inr rfl) (e_op o_add (e_var 3) (e_lst (a_cons (e_tup (a_cons (e_var 4) (a_cons (e_var 5) a_nil))) (a_cons (e_tup (a_cons (e_op o_sub (e_var 4) e_int) (a_cons (e_var 5) a_nil))) (a_cons (e_tup (a_cons (e_op o_add (e_var 4) e_int) (a_cons (e_var 5) a_nil))) (a_cons (e_tup (a_cons (e_var 4) (a_cons (e_op o_sub (e_var 5) e_int) a_nil))) (a_cons (e_tup (a_cons (e_var 4) (a_cons (e_op o_add (e_var 5) e_int) a_nil))) a_nil)))))))))) (ss_cons (s_forR2 PassesOwn.never rfl rfl T.z_range (a_cons e_int (a_cons e_int a_nil)) (g_name (i := 6) nd rfl (by first | exact Or.inl rfl | exact Or.inr rfl)) (ss_one (s_expr (e_m_append (e_var 3) (a_cons (e_tup (a_cons (e_call G_law_number (hr.mono (by decide)) rfl T.m_law_number T.k_law_number T.b_law_number (a_cons (e_call G_law_cell_at (hr.mono (by decide)) rfl T.m_law_cell_at T.k_law_cell_at T.b_law_cell_at (a_cons (e_var 0) (a_cons (e_var 6) a_nil))) a_nil)) (a_cons (e_call G_law_number (hr.mono (by decide)) rfl T.m_law_number T.k_law_number T.b_law_number (a_cons (e_call G_law_cell_at (hr.mono (by decide)) rfl T.m_law_cell_at T.k_law_cell_at T.b_law_cell_at (a_cons (e_var 0) (a_cons (e_op o_add (e_var 6) e_int) a_nil))) a_nil)) a_nil))) a_nil))))) (ss_cons (s_for PassesOwn.never rfl (e_var 3) (g_name (i := 7) nd rfl (by first | exact Or.inl rfl | exact Or.inr rfl)) (ss_one (s_if (PW2.pt (t_or (t_not (t_val (e_isi (by rfl) rfl T.z_isinstance rfl T.z_bool (e_alt (e_meth (e_var 2) T.cl_Everywhere T.me_Everywhere_has G_Everywhere_has (hr.mono (by decide)) T.b_Everywhere_has (a_cons (e_var 7) a_nil)) (e_alt (e_meth (e_var 2) T.cl_Box T.me_Box_has G_Box_has (hr.mono (by decide)) T.b_Box_has (a_cons (e_var 7) a_nil)) (e_alt (e_meth (e_var 2) T.cl_Both T.me_Both_has G_Both_has (hr.mono (by decide)) T.b_Both_has (a_cons (e_var 7) a_nil)) (e_alt (e_meth (e_var 2) T.cl_Either T.me_Either_has G_Either_has (hr.mono (by decide)) T.b_Either_has (a_cons (e_var 7) a_nil)) (e_meth (e_var 2) T.cl_Outside T.me_Outside_has G_Outside_has (hr.mono (by decide)) T.b_Outside_has (a_cons (e_var 7) a_nil))))))))) (t_or1 (t_cmp (o_ne hu40) (e_alt (e_meth (e_var 2) T.cl_Everywhere T.me_Everywhere_has G_Everywhere_has (hr.mono (by decide)) T.b_Everywhere_has (a_cons (e_var 7) a_nil)) (e_alt (e_meth (e_var 2) T.cl_Box T.me_Box_has G_Box_has (hr.mono (by decide)) T.b_Box_has (a_cons (e_var 7) a_nil)) (e_alt (e_meth (e_var 2) T.cl_Both T.me_Both_has G_Both_has (hr.mono (by decide)) T.b_Both_has (a_cons (e_var 7) a_nil)) (e_alt (e_meth (e_var 2) T.cl_Either T.me_Either_has G_Either_has (hr.mono (by decide)) T.b_Either_has (a_cons (e_var 7) a_nil)) (e_meth (e_var 2) T.cl_Outside T.me_Outside_has G_Outside_has (hr.mono (by decide)) T.b_Outside_has (a_cons (e_var 7) a_nil)))))) (e_call G_law_has (hr.mono (by decide)) rfl T.m_law_has T.k_law_has T.b_law_has (a_cons (e_var 1) (a_cons (e_var 7) a_nil))) (nomark _))))) (ss_one (s_ret e_bl)) ss_nil))) (ss_one (s_ret e_bl)))))))))
theorem ok_all (T : Txt K w mg A) : FnOk P w K mg base CX0 21 A.f_law A.d_law ["_law_script"] (lowSp K (sp_law A)) := by
  have G_Box_has := ok_Box_has (P := P) (base := base) T
  have G_Everywhere_has := ok_Everywhere_has (P := P) (base := base) T
  have GG := ok_group_Both_has (P := P) (base := base) T G_Box_has G_Everywhere_has 16
  obtain ⟨G_Both_has, G_Either_has, G_Outside_has⟩ := GG
  have G_Both_init := ok_Both_init (P := P) (base := base) T
  have G_Box_init := ok_Box_init (P := P) (base := base) T
  have G_Either_init := ok_Either_init (P := P) (base := base) T
  have G_Outside_init := ok_Outside_init (P := P) (base := base) T
  have GG := ok_group_law_area (P := P) (base := base) T G_Both_init G_Box_init G_Either_init G_Outside_init 16
  have G_law_area := GG
  have G_law_cell_at := ok_law_cell_at (P := P) (base := base) T
  have GG := ok_group_law_corners (P := P) (base := base) T 16
  have G_law_corners := GG
  have GG := ok_group_law_has (P := P) (base := base) T 16
  have G_law_has := GG
  have G_law_number := ok_law_number (P := P) (base := base) T
  have G_law_leaf := ok_law_leaf (P := P) (base := base) T G_law_number
  have G_law_tree := ok_law_tree (P := P) (base := base) T G_law_cell_at G_law_leaf
  exact ok_law T G_Both_has G_Box_has G_Either_has G_Everywhere_has G_Outside_has G_law_area G_law_cell_at G_law_corners G_law_has G_law_number G_law_tree
end
theorem all_mk {l : PySem.W.OpenLaw} {w : World} {K : PySem.W.Frag} {h : Heap} {mg : Str → Option Value} {fa : Addr} (X : K.In h) (G : h.Ns mainGlobals mg) (hfa : mg "law" = some (.ref fa))
    {C_Area : Addr}
    {C_Both : Addr}
    {C_Box : Addr}
    {C_Either : Addr}
    {C_Everywhere : Addr}
    {C_Outside : Addr}
    {f_Box_has : Addr} {od_Box_has an_Box_has : Option Addr} {sl_Box_has : Array (Option Value)} {oc_Box_has kV_Box_has dc_Box_has pm_Box_has cd_Box_has ct_Box_has : Value}
    {f_Everywhere_has : Addr} {od_Everywhere_has an_Everywhere_has : Option Addr} {sl_Everywhere_has : Array (Option Value)} {oc_Everywhere_has kV_Everywhere_has dc_Everywhere_has pm_Everywhere_has cd_Everywhere_has ct_Everywhere_has : Value}
    {f_Both_has : Addr} {od_Both_has an_Both_has : Option Addr} {sl_Both_has : Array (Option Value)} {oc_Both_has kV_Both_has dc_Both_has pm_Both_has cd_Both_has ct_Both_has : Value}
    {f_Either_has : Addr} {od_Either_has an_Either_has : Option Addr} {sl_Either_has : Array (Option Value)} {oc_Either_has kV_Either_has dc_Either_has pm_Either_has cd_Either_has ct_Either_has : Value}
    {f_Outside_has : Addr} {od_Outside_has an_Outside_has : Option Addr} {sl_Outside_has : Array (Option Value)} {oc_Outside_has kV_Outside_has dc_Outside_has pm_Outside_has cd_Outside_has ct_Outside_has : Value}
    {f_Both_init : Addr} {od_Both_init an_Both_init : Option Addr} {sl_Both_init : Array (Option Value)} {oc_Both_init kV_Both_init dc_Both_init pm_Both_init cd_Both_init ct_Both_init : Value}
    {f_Box_init : Addr} {od_Box_init an_Box_init : Option Addr} {sl_Box_init : Array (Option Value)} {oc_Box_init kV_Box_init dc_Box_init pm_Box_init cd_Box_init ct_Box_init : Value}
    {f_Either_init : Addr} {od_Either_init an_Either_init : Option Addr} {sl_Either_init : Array (Option Value)} {oc_Either_init kV_Either_init dc_Either_init pm_Either_init cd_Either_init ct_Either_init : Value}
    {f_Outside_init : Addr} {od_Outside_init an_Outside_init : Option Addr} {sl_Outside_init : Array (Option Value)} {oc_Outside_init kV_Outside_init dc_Outside_init pm_Outside_init cd_Outside_init ct_Outside_init : Value}
    {f_law_area : Addr} {od_law_area an_law_area : Option Addr} {sl_law_area : Array (Option Value)} {oc_law_area kV_law_area dc_law_area pm_law_area cd_law_area ct_law_area : Value}
    {f_law_cell_at : Addr} {od_law_cell_at an_law_cell_at : Option Addr} {sl_law_cell_at : Array (Option Value)} {oc_law_cell_at kV_law_cell_at dc_law_cell_at pm_law_cell_at cd_law_cell_at ct_law_cell_at : Value}
    {f_law_corners : Addr} {od_law_corners an_law_corners : Option Addr} {sl_law_corners : Array (Option Value)} {oc_law_corners kV_law_corners dc_law_corners pm_law_corners cd_law_corners ct_law_corners : Value}
    {f_law_has : Addr} {od_law_has an_law_has : Option Addr} {sl_law_has : Array (Option Value)} {oc_law_has kV_law_has dc_law_has pm_law_has cd_law_has ct_law_has : Value}
    {f_law_number : Addr} {od_law_number an_law_number : Option Addr} {sl_law_number : Array (Option Value)} {oc_law_number kV_law_number dc_law_number pm_law_number cd_law_number ct_law_number : Value}
    {f_law_leaf : Addr} {od_law_leaf an_law_leaf : Option Addr} {sl_law_leaf : Array (Option Value)} {oc_law_leaf kV_law_leaf dc_law_leaf pm_law_leaf cd_law_leaf ct_law_leaf : Value}
    {f_law_tree : Addr} {od_law_tree an_law_tree : Option Addr} {sl_law_tree : Array (Option Value)} {oc_law_tree kV_law_tree dc_law_tree pm_law_tree cd_law_tree ct_law_tree : Value}
    {f_law : Addr} {od_law an_law : Option Addr} {sl_law : Array (Option Value)} {oc_law kV_law dc_law pm_law cd_law ct_law : Value}
    (aC_Area : PySem.W.nsIn K mainGlobals "Area" = some (some (.ref C_Area)))
    (aC_Both : PySem.W.nsIn K mainGlobals "Both" = some (some (.ref C_Both)))
    (aC_Box : PySem.W.nsIn K mainGlobals "Box" = some (some (.ref C_Box)))
    (aC_Either : PySem.W.nsIn K mainGlobals "Either" = some (some (.ref C_Either)))
    (aC_Everywhere : PySem.W.nsIn K mainGlobals "Everywhere" = some (some (.ref C_Everywhere)))
    (aC_Outside : PySem.W.nsIn K mainGlobals "Outside" = some (some (.ref C_Outside)))
    (a_Box_has : PySem.W.findIn K (.ref C_Box) "has" = some (some (.ref f_Box_has)))
    (i_Box_has : PySem.W.isFn K (.ref f_Box_has) = true)
    (l_Box_has : K.lookup f_Box_has = some ⟨oc_Box_has, od_Box_has, .func (PySem.W.fnOf "has" "Box.has" (defArgs s_Box_has) (defBody s_Box_has) (defScope s_Box_has) .none kV_Box_has dc_Box_has pm_Box_has an_Box_has cd_Box_has ct_Box_has), sl_Box_has⟩)
    (c_Box_has : PySem.W.codeIn K cd_Box_has "Box.has" = true)
    (k_Box_has : PySem.W.keepIn K (.ref f_Box_has) = true)
    (a_Everywhere_has : PySem.W.findIn K (.ref C_Everywhere) "has" = some (some (.ref f_Everywhere_has)))
    (i_Everywhere_has : PySem.W.isFn K (.ref f_Everywhere_has) = true)
    (l_Everywhere_has : K.lookup f_Everywhere_has = some ⟨oc_Everywhere_has, od_Everywhere_has, .func (PySem.W.fnOf "has" "Everywhere.has" (defArgs s_Everywhere_has) (defBody s_Everywhere_has) (defScope s_Everywhere_has) .none kV_Everywhere_has dc_Everywhere_has pm_Everywhere_has an_Everywhere_has cd_Everywhere_has ct_Everywhere_has), sl_Everywhere_has⟩)
    (c_Everywhere_has : PySem.W.codeIn K cd_Everywhere_has "Everywhere.has" = true)
    (k_Everywhere_has : PySem.W.keepIn K (.ref f_Everywhere_has) = true)
    (a_Both_has : PySem.W.findIn K (.ref C_Both) "has" = some (some (.ref f_Both_has)))
    (i_Both_has : PySem.W.isFn K (.ref f_Both_has) = true)
    (l_Both_has : K.lookup f_Both_has = some ⟨oc_Both_has, od_Both_has, .func (PySem.W.fnOf "has" "Both.has" (defArgs s_Both_has) (defBody s_Both_has) (defScope s_Both_has) .none kV_Both_has dc_Both_has pm_Both_has an_Both_has cd_Both_has ct_Both_has), sl_Both_has⟩)
    (c_Both_has : PySem.W.codeIn K cd_Both_has "Both.has" = true)
    (k_Both_has : PySem.W.keepIn K (.ref f_Both_has) = true)
    (a_Either_has : PySem.W.findIn K (.ref C_Either) "has" = some (some (.ref f_Either_has)))
    (i_Either_has : PySem.W.isFn K (.ref f_Either_has) = true)
    (l_Either_has : K.lookup f_Either_has = some ⟨oc_Either_has, od_Either_has, .func (PySem.W.fnOf "has" "Either.has" (defArgs s_Either_has) (defBody s_Either_has) (defScope s_Either_has) .none kV_Either_has dc_Either_has pm_Either_has an_Either_has cd_Either_has ct_Either_has), sl_Either_has⟩)
    (c_Either_has : PySem.W.codeIn K cd_Either_has "Either.has" = true)
    (k_Either_has : PySem.W.keepIn K (.ref f_Either_has) = true)
    (a_Outside_has : PySem.W.findIn K (.ref C_Outside) "has" = some (some (.ref f_Outside_has)))
    (i_Outside_has : PySem.W.isFn K (.ref f_Outside_has) = true)
    (l_Outside_has : K.lookup f_Outside_has = some ⟨oc_Outside_has, od_Outside_has, .func (PySem.W.fnOf "has" "Outside.has" (defArgs s_Outside_has) (defBody s_Outside_has) (defScope s_Outside_has) .none kV_Outside_has dc_Outside_has pm_Outside_has an_Outside_has cd_Outside_has ct_Outside_has), sl_Outside_has⟩)
    (c_Outside_has : PySem.W.codeIn K cd_Outside_has "Outside.has" = true)
    (k_Outside_has : PySem.W.keepIn K (.ref f_Outside_has) = true)
    (a_Both_init : PySem.W.findIn K (.ref C_Both) "__init__" = some (some (.ref f_Both_init)))
    (i_Both_init : PySem.W.isFn K (.ref f_Both_init) = true)
    (l_Both_init : K.lookup f_Both_init = some ⟨oc_Both_init, od_Both_init, .func (PySem.W.fnOf "__init__" "Both.__init__" (defArgs s_Both_init) (defBody s_Both_init) (defScope s_Both_init) .none kV_Both_init dc_Both_init pm_Both_init an_Both_init cd_Both_init ct_Both_init), sl_Both_init⟩)
    (c_Both_init : PySem.W.codeIn K cd_Both_init "Both.__init__" = true)
    (k_Both_init : PySem.W.keepIn K (.ref f_Both_init) = true)
    (a_Box_init : PySem.W.findIn K (.ref C_Box) "__init__" = some (some (.ref f_Box_init)))
    (i_Box_init : PySem.W.isFn K (.ref f_Box_init) = true)
    (l_Box_init : K.lookup f_Box_init = some ⟨oc_Box_init, od_Box_init, .func (PySem.W.fnOf "__init__" "Box.__init__" (defArgs s_Box_init) (defBody s_Box_init) (defScope s_Box_init) .none kV_Box_init dc_Box_init pm_Box_init an_Box_init cd_Box_init ct_Box_init), sl_Box_init⟩)
    (c_Box_init : PySem.W.codeIn K cd_Box_init "Box.__init__" = true)
    (k_Box_init : PySem.W.keepIn K (.ref f_Box_init) = true)
    (a_Either_init : PySem.W.findIn K (.ref C_Either) "__init__" = some (some (.ref f_Either_init)))
    (i_Either_init : PySem.W.isFn K (.ref f_Either_init) = true)
    (l_Either_init : K.lookup f_Either_init = some ⟨oc_Either_init, od_Either_init, .func (PySem.W.fnOf "__init__" "Either.__init__" (defArgs s_Either_init) (defBody s_Either_init) (defScope s_Either_init) .none kV_Either_init dc_Either_init pm_Either_init an_Either_init cd_Either_init ct_Either_init), sl_Either_init⟩)
    (c_Either_init : PySem.W.codeIn K cd_Either_init "Either.__init__" = true)
    (k_Either_init : PySem.W.keepIn K (.ref f_Either_init) = true)
    (a_Outside_init : PySem.W.findIn K (.ref C_Outside) "__init__" = some (some (.ref f_Outside_init)))
    (i_Outside_init : PySem.W.isFn K (.ref f_Outside_init) = true)
    (l_Outside_init : K.lookup f_Outside_init = some ⟨oc_Outside_init, od_Outside_init, .func (PySem.W.fnOf "__init__" "Outside.__init__" (defArgs s_Outside_init) (defBody s_Outside_init) (defScope s_Outside_init) .none kV_Outside_init dc_Outside_init pm_Outside_init an_Outside_init cd_Outside_init ct_Outside_init), sl_Outside_init⟩)
    (c_Outside_init : PySem.W.codeIn K cd_Outside_init "Outside.__init__" = true)
    (k_Outside_init : PySem.W.keepIn K (.ref f_Outside_init) = true)
    (a_law_area : PySem.W.nsIn K mainGlobals "_law_area" = some (some (.ref f_law_area)))
    (l_law_area : K.lookup f_law_area = some ⟨oc_law_area, od_law_area, .func (PySem.W.fnOf "_law_area" "_law_area" (defArgs s_law_area) (defBody s_law_area) (defScope s_law_area) .none kV_law_area dc_law_area pm_law_area an_law_area cd_law_area ct_law_area), sl_law_area⟩)
    (c_law_area : PySem.W.codeIn K cd_law_area "_law_area" = true)
    (k_law_area : PySem.W.keepIn K (.ref f_law_area) = true)
    (a_law_cell_at : PySem.W.nsIn K mainGlobals "_law_cell_at" = some (some (.ref f_law_cell_at)))
    (l_law_cell_at : K.lookup f_law_cell_at = some ⟨oc_law_cell_at, od_law_cell_at, .func (PySem.W.fnOf "_law_cell_at" "_law_cell_at" (defArgs s_law_cell_at) (defBody s_law_cell_at) (defScope s_law_cell_at) .none kV_law_cell_at dc_law_cell_at pm_law_cell_at an_law_cell_at cd_law_cell_at ct_law_cell_at), sl_law_cell_at⟩)
    (c_law_cell_at : PySem.W.codeIn K cd_law_cell_at "_law_cell_at" = true)
    (k_law_cell_at : PySem.W.keepIn K (.ref f_law_cell_at) = true)
    (a_law_corners : PySem.W.nsIn K mainGlobals "_law_corners" = some (some (.ref f_law_corners)))
    (l_law_corners : K.lookup f_law_corners = some ⟨oc_law_corners, od_law_corners, .func (PySem.W.fnOf "_law_corners" "_law_corners" (defArgs s_law_corners) (defBody s_law_corners) (defScope s_law_corners) .none kV_law_corners dc_law_corners pm_law_corners an_law_corners cd_law_corners ct_law_corners), sl_law_corners⟩)
    (c_law_corners : PySem.W.codeIn K cd_law_corners "_law_corners" = true)
    (k_law_corners : PySem.W.keepIn K (.ref f_law_corners) = true)
    (a_law_has : PySem.W.nsIn K mainGlobals "_law_has" = some (some (.ref f_law_has)))
    (l_law_has : K.lookup f_law_has = some ⟨oc_law_has, od_law_has, .func (PySem.W.fnOf "_law_has" "_law_has" (defArgs s_law_has) (defBody s_law_has) (defScope s_law_has) .none kV_law_has dc_law_has pm_law_has an_law_has cd_law_has ct_law_has), sl_law_has⟩)
    (c_law_has : PySem.W.codeIn K cd_law_has "_law_has" = true)
    (k_law_has : PySem.W.keepIn K (.ref f_law_has) = true)
    (a_law_number : PySem.W.nsIn K mainGlobals "_law_number" = some (some (.ref f_law_number)))
    (l_law_number : K.lookup f_law_number = some ⟨oc_law_number, od_law_number, .func (PySem.W.fnOf "_law_number" "_law_number" (defArgs s_law_number) (defBody s_law_number) (defScope s_law_number) .none kV_law_number dc_law_number pm_law_number an_law_number cd_law_number ct_law_number), sl_law_number⟩)
    (c_law_number : PySem.W.codeIn K cd_law_number "_law_number" = true)
    (k_law_number : PySem.W.keepIn K (.ref f_law_number) = true)
    (a_law_leaf : PySem.W.nsIn K mainGlobals "_law_leaf" = some (some (.ref f_law_leaf)))
    (l_law_leaf : K.lookup f_law_leaf = some ⟨oc_law_leaf, od_law_leaf, .func (PySem.W.fnOf "_law_leaf" "_law_leaf" (defArgs s_law_leaf) (defBody s_law_leaf) (defScope s_law_leaf) .none kV_law_leaf dc_law_leaf pm_law_leaf an_law_leaf cd_law_leaf ct_law_leaf), sl_law_leaf⟩)
    (c_law_leaf : PySem.W.codeIn K cd_law_leaf "_law_leaf" = true)
    (k_law_leaf : PySem.W.keepIn K (.ref f_law_leaf) = true)
    (a_law_tree : PySem.W.nsIn K mainGlobals "_law_tree" = some (some (.ref f_law_tree)))
    (l_law_tree : K.lookup f_law_tree = some ⟨oc_law_tree, od_law_tree, .func (PySem.W.fnOf "_law_tree" "_law_tree" (defArgs s_law_tree) (defBody s_law_tree) (defScope s_law_tree) .none kV_law_tree dc_law_tree pm_law_tree an_law_tree cd_law_tree ct_law_tree), sl_law_tree⟩)
    (c_law_tree : PySem.W.codeIn K cd_law_tree "_law_tree" = true)
    (k_law_tree : PySem.W.keepIn K (.ref f_law_tree) = true)
    (a_law : PySem.W.nsIn K mainGlobals "law" = some (some (.ref f_law)))
    (l_law : K.lookup f_law = some ⟨oc_law, od_law, .func (PySem.W.fnOf "law" "law" (defArgs s_law) (defBody s_law) (defScope s_law) .none kV_law dc_law pm_law an_law cd_law ct_law), sl_law⟩)
    (c_law : PySem.W.codeIn K cd_law "law" = true)
    (k_law : PySem.W.keepIn K (.ref f_law) = true)
    (pg_Area : PySem.W.plainGet K C_Area Str.empty = true)
    (hd_Area : PySem.W.hasDictIn K C_Area = true)
    (po_Area : PySem.W.plainOver K C_Area = true)
    (sa_Area : PySem.W.findIn K (.ref C_Area) "__setattr__" = some (some (.builtin "object.__setattr__")))
    (pg_Both : PySem.W.plainGet K C_Both Str.empty = true)
    (hd_Both : PySem.W.hasDictIn K C_Both = true)
    (po_Both : PySem.W.plainOver K C_Both = true)
    (sa_Both : PySem.W.findIn K (.ref C_Both) "__setattr__" = some (some (.builtin "object.__setattr__")))
    (mk_Both : PySem.W.makesIn K C_Both = true)
    (kc_Both : PySem.W.keepIn K (.ref C_Both) = true)
    (n_Both_one : PySem.W.findIn K (.ref C_Both) "one" = some none)
    (n_Both_other : PySem.W.findIn K (.ref C_Both) "other" = some none)
    (pg_Box : PySem.W.plainGet K C_Box Str.empty = true)
    (hd_Box : PySem.W.hasDictIn K C_Box = true)
    (po_Box : PySem.W.plainOver K C_Box = true)
    (sa_Box : PySem.W.findIn K (.ref C_Box) "__setattr__" = some (some (.builtin "object.__setattr__")))
    (mk_Box : PySem.W.makesIn K C_Box = true)
    (kc_Box : PySem.W.keepIn K (.ref C_Box) = true)
    (n_Box_bottom : PySem.W.findIn K (.ref C_Box) "bottom" = some none)
    (n_Box_left : PySem.W.findIn K (.ref C_Box) "left" = some none)
    (n_Box_right : PySem.W.findIn K (.ref C_Box) "right" = some none)
    (n_Box_top : PySem.W.findIn K (.ref C_Box) "top" = some none)
    (pg_Either : PySem.W.plainGet K C_Either Str.empty = true)
    (hd_Either : PySem.W.hasDictIn K C_Either = true)
    (po_Either : PySem.W.plainOver K C_Either = true)
    (sa_Either : PySem.W.findIn K (.ref C_Either) "__setattr__" = some (some (.builtin "object.__setattr__")))
    (mk_Either : PySem.W.makesIn K C_Either = true)
    (kc_Either : PySem.W.keepIn K (.ref C_Either) = true)
    (n_Either_one : PySem.W.findIn K (.ref C_Either) "one" = some none)
    (n_Either_other : PySem.W.findIn K (.ref C_Either) "other" = some none)
    (pg_Everywhere : PySem.W.plainGet K C_Everywhere Str.empty = true)
    (hd_Everywhere : PySem.W.hasDictIn K C_Everywhere = true)
    (po_Everywhere : PySem.W.plainOver K C_Everywhere = true)
    (sa_Everywhere : PySem.W.findIn K (.ref C_Everywhere) "__setattr__" = some (some (.builtin "object.__setattr__")))
    (pg_Outside : PySem.W.plainGet K C_Outside Str.empty = true)
    (hd_Outside : PySem.W.hasDictIn K C_Outside = true)
    (po_Outside : PySem.W.plainOver K C_Outside = true)
    (sa_Outside : PySem.W.findIn K (.ref C_Outside) "__setattr__" = some (some (.builtin "object.__setattr__")))
    (mk_Outside : PySem.W.makesIn K C_Outside = true)
    (kc_Outside : PySem.W.keepIn K (.ref C_Outside) = true)
    (n_Outside_one : PySem.W.findIn K (.ref C_Outside) "one" = some none)
    (mk_Everywhere : PySem.W.makesIn K C_Everywhere = true)
    (kc_Everywhere : PySem.W.keepIn K (.ref C_Everywhere) = true)
    (in_Everywhere : PySem.W.findIn K (.ref C_Everywhere) "__init__" = some (some (.builtin "object.__init__")))
    (ic_n : PySem.W.specialIn K (.builtin "object.__class__") "__get__" = some (some (.builtin "getset_descriptor.__get__")))
    (ic_t : PySem.W.takesIn K (.builtin "object.__class__") = some true)
    (ic_a_Both : PySem.W.findIn K (.ref C_Both) "__class__" = some (some (.builtin "object.__class__")))
    (ic_m_Both : PySem.W.mroIn K C_Both (.type "object") = some true)
    (ki_Both_Area : PySem.W.kitOne K (.ref C_Both) (.ref C_Area) = some true)
    (ic_a_Box : PySem.W.findIn K (.ref C_Box) "__class__" = some (some (.builtin "object.__class__")))
    (ic_m_Box : PySem.W.mroIn K C_Box (.type "object") = some true)
    (ki_Box_Area : PySem.W.kitOne K (.ref C_Box) (.ref C_Area) = some true)
    (ic_a_Either : PySem.W.findIn K (.ref C_Either) "__class__" = some (some (.builtin "object.__class__")))
    (ic_m_Either : PySem.W.mroIn K C_Either (.type "object") = some true)
    (ki_Either_Area : PySem.W.kitOne K (.ref C_Either) (.ref C_Area) = some true)
    (ic_a_Everywhere : PySem.W.findIn K (.ref C_Everywhere) "__class__" = some (some (.builtin "object.__class__")))
    (ic_m_Everywhere : PySem.W.mroIn K C_Everywhere (.type "object") = some true)
    (ki_Everywhere_Area : PySem.W.kitOne K (.ref C_Everywhere) (.ref C_Area) = some true)
    (ic_a_Outside : PySem.W.findIn K (.ref C_Outside) "__class__" = some (some (.builtin "object.__class__")))
    (ic_m_Outside : PySem.W.mroIn K C_Outside (.type "object") = some true)
    (ki_Outside_Area : PySem.W.kitOne K (.ref C_Outside) (.ref C_Area) = some true)
    (z_bool : PySem.W.nsIn K mainGlobals "bool" = some none)
    (z_isinstance : PySem.W.nsIn K mainGlobals "isinstance" = some none)
    (z_len : PySem.W.nsIn K mainGlobals "len" = some none)
    (z_range : PySem.W.nsIn K mainGlobals "range" = some none) :
    ∃ fd : FuncData, (∀ (s : Shared) (v : Value), BindsTo s fd ⟨[v], []⟩ [("_law_script", v)]) ∧ ∀ base : Heap, K.In base → base.Ns mainGlobals mg → FnOk l.prog w K mg base CX0 21 fa fd ["_law_script"] (lowSp K sp_law0) := by
  have e : f_law = fa := by
    have e := (PySem.W.mg_of X G a_law).symm.trans hfa
    injection e with e
    injection e
  subst e
  have F_Box_has := fun_mk (st := s_Box_has) l_Box_has c_Box_has k_Box_has
  have b_Box_has := F_Box_has.binds (ps := ["self", "cell"]) fun _ _ _ _ _ _ us hl => match us, hl with | [_, _], _ => rfl
  have F_Everywhere_has := fun_mk (st := s_Everywhere_has) l_Everywhere_has c_Everywhere_has k_Everywhere_has
  have b_Everywhere_has := F_Everywhere_has.binds (ps := ["self", "cell"]) fun _ _ _ _ _ _ us hl => match us, hl with | [_, _], _ => rfl
  have F_Both_has := fun_mk (st := s_Both_has) l_Both_has c_Both_has k_Both_has
  have b_Both_has := F_Both_has.binds (ps := ["self", "cell"]) fun _ _ _ _ _ _ us hl => match us, hl with | [_, _], _ => rfl
  have F_Either_has := fun_mk (st := s_Either_has) l_Either_has c_Either_has k_Either_has
  have b_Either_has := F_Either_has.binds (ps := ["self", "cell"]) fun _ _ _ _ _ _ us hl => match us, hl with | [_, _], _ => rfl
  have F_Outside_has := fun_mk (st := s_Outside_has) l_Outside_has c_Outside_has k_Outside_has
  have b_Outside_has := F_Outside_has.binds (ps := ["self", "cell"]) fun _ _ _ _ _ _ us hl => match us, hl with | [_, _], _ => rfl
  have F_Both_init := fun_mk (st := s_Both_init) l_Both_init c_Both_init k_Both_init
  have b_Both_init := F_Both_init.binds (ps := ["self", "one", "other"]) fun _ _ _ _ _ _ us hl => match us, hl with | [_, _, _], _ => rfl
  have F_Box_init := fun_mk (st := s_Box_init) l_Box_init c_Box_init k_Box_init
  have b_Box_init := F_Box_init.binds (ps := ["self", "top", "left", "bottom", "right"]) fun _ _ _ _ _ _ us hl => match us, hl with | [_, _, _, _, _], _ => rfl
  have F_Either_init := fun_mk (st := s_Either_init) l_Either_init c_Either_init k_Either_init
  have b_Either_init := F_Either_init.binds (ps := ["self", "one", "other"]) fun _ _ _ _ _ _ us hl => match us, hl with | [_, _, _], _ => rfl
  have F_Outside_init := fun_mk (st := s_Outside_init) l_Outside_init c_Outside_init k_Outside_init
  have b_Outside_init := F_Outside_init.binds (ps := ["self", "one"]) fun _ _ _ _ _ _ us hl => match us, hl with | [_, _], _ => rfl
  have F_law_area := fun_mk (st := s_law_area) l_law_area c_law_area k_law_area
  have b_law_area := F_law_area.binds (ps := ["_law_tree_here"]) fun _ _ _ _ _ _ us hl => match us, hl with | [_], _ => rfl
  have F_law_cell_at := fun_mk (st := s_law_cell_at) l_law_cell_at c_law_cell_at k_law_cell_at
  have b_law_cell_at := F_law_cell_at.binds (ps := ["_law_script", "_law_k"]) fun _ _ _ _ _ _ us hl => match us, hl with | [_, _], _ => rfl
  have F_law_corners := fun_mk (st := s_law_corners) l_law_corners c_law_corners k_law_corners
  have b_law_corners := F_law_corners.binds (ps := ["_law_tree_here"]) fun _ _ _ _ _ _ us hl => match us, hl with | [_], _ => rfl
  have F_law_has := fun_mk (st := s_law_has) l_law_has c_law_has k_law_has
  have b_law_has := F_law_has.binds (ps := ["_law_tree_here", "_law_cell"]) fun _ _ _ _ _ _ us hl => match us, hl with | [_, _], _ => rfl
  have F_law_number := fun_mk (st := s_law_number) l_law_number c_law_number k_law_number
  have b_law_number := F_law_number.binds (ps := ["_law_cell"]) fun _ _ _ _ _ _ us hl => match us, hl with | [_], _ => rfl
  have F_law_leaf := fun_mk (st := s_law_leaf) l_law_leaf c_law_leaf k_law_leaf
  have b_law_leaf := F_law_leaf.binds (ps := ["_law_cell"]) fun _ _ _ _ _ _ us hl => match us, hl with | [_], _ => rfl
  have F_law_tree := fun_mk (st := s_law_tree) l_law_tree c_law_tree k_law_tree
  have b_law_tree := F_law_tree.binds (ps := ["_law_cells"]) fun _ _ _ _ _ _ us hl => match us, hl with | [_], _ => rfl
  have F_law := fun_mk (st := s_law) l_law c_law k_law
  have b_law := F_law.binds (ps := ["_law_script"]) fun _ _ _ _ _ _ us hl => match us, hl with | [_], _ => rfl
  let A : Adr := { f_Box_has := f_Box_has, d_Box_has := PySem.W.fnOf "has" "Box.has" (defArgs s_Box_has) (defBody s_Box_has) (defScope s_Box_has) .none kV_Box_has dc_Box_has pm_Box_has an_Box_has cd_Box_has ct_Box_has, f_Everywhere_has := f_Everywhere_has, d_Everywhere_has := PySem.W.fnOf "has" "Everywhere.has" (defArgs s_Everywhere_has) (defBody s_Everywhere_has) (defScope s_Everywhere_has) .none kV_Everywhere_has dc_Everywhere_has pm_Everywhere_has an_Everywhere_has cd_Everywhere_has ct_Everywhere_has, f_Both_has := f_Both_has, d_Both_has := PySem.W.fnOf "has" "Both.has" (defArgs s_Both_has) (defBody s_Both_has) (defScope s_Both_has) .none kV_Both_has dc_Both_has pm_Both_has an_Both_has cd_Both_has ct_Both_has, f_Either_has := f_Either_has, d_Either_has := PySem.W.fnOf "has" "Either.has" (defArgs s_Either_has) (defBody s_Either_has) (defScope s_Either_has) .none kV_Either_has dc_Either_has pm_Either_has an_Either_has cd_Either_has ct_Either_has, f_Outside_has := f_Outside_has, d_Outside_has := PySem.W.fnOf "has" "Outside.has" (defArgs s_Outside_has) (defBody s_Outside_has) (defScope s_Outside_has) .none kV_Outside_has dc_Outside_has pm_Outside_has an_Outside_has cd_Outside_has ct_Outside_has, f_Both_init := f_Both_init, d_Both_init := PySem.W.fnOf "__init__" "Both.__init__" (defArgs s_Both_init) (defBody s_Both_init) (defScope s_Both_init) .none kV_Both_init dc_Both_init pm_Both_init an_Both_init cd_Both_init ct_Both_init, f_Box_init := f_Box_init, d_Box_init := PySem.W.fnOf "__init__" "Box.__init__" (defArgs s_Box_init) (defBody s_Box_init) (defScope s_Box_init) .none kV_Box_init dc_Box_init pm_Box_init an_Box_init cd_Box_init ct_Box_init, f_Either_init := f_Either_init, d_Either_init := PySem.W.fnOf "__init__" "Either.__init__" (defArgs s_Either_init) (defBody s_Either_init) (defScope s_Either_init) .none kV_Either_init dc_Either_init pm_Either_init an_Either_init cd_Either_init ct_Either_init, f_Outside_init := f_Outside_init, d_Outside_init := PySem.W.fnOf "__init__" "Outside.__init__" (defArgs s_Outside_init) (defBody s_Outside_init) (defScope s_Outside_init) .none kV_Outside_init dc_Outside_init pm_Outside_init an_Outside_init cd_Outside_init ct_Outside_init, f_law_area := f_law_area, d_law_area := PySem.W.fnOf "_law_area" "_law_area" (defArgs s_law_area) (defBody s_law_area) (defScope s_law_area) .none kV_law_area dc_law_area pm_law_area an_law_area cd_law_area ct_law_area, f_law_cell_at := f_law_cell_at, d_law_cell_at := PySem.W.fnOf "_law_cell_at" "_law_cell_at" (defArgs s_law_cell_at) (defBody s_law_cell_at) (defScope s_law_cell_at) .none kV_law_cell_at dc_law_cell_at pm_law_cell_at an_law_cell_at cd_law_cell_at ct_law_cell_at, f_law_corners := f_law_corners, d_law_corners := PySem.W.fnOf "_law_corners" "_law_corners" (defArgs s_law_corners) (defBody s_law_corners) (defScope s_law_corners) .none kV_law_corners dc_law_corners pm_law_corners an_law_corners cd_law_corners ct_law_corners, f_law_has := f_law_has, d_law_has := PySem.W.fnOf "_law_has" "_law_has" (defArgs s_law_has) (defBody s_law_has) (defScope s_law_has) .none kV_law_has dc_law_has pm_law_has an_law_has cd_law_has ct_law_has, f_law_number := f_law_number, d_law_number := PySem.W.fnOf "_law_number" "_law_number" (defArgs s_law_number) (defBody s_law_number) (defScope s_law_number) .none kV_law_number dc_law_number pm_law_number an_law_number cd_law_number ct_law_number, f_law_leaf := f_law_leaf, d_law_leaf := PySem.W.fnOf "_law_leaf" "_law_leaf" (defArgs s_law_leaf) (defBody s_law_leaf) (defScope s_law_leaf) .none kV_law_leaf dc_law_leaf pm_law_leaf an_law_leaf cd_law_leaf ct_law_leaf, f_law_tree := f_law_tree, d_law_tree := PySem.W.fnOf "_law_tree" "_law_tree" (defArgs s_law_tree) (defBody s_law_tree) (defScope s_law_tree) .none kV_law_tree dc_law_tree pm_law_tree an_law_tree cd_law_tree ct_law_tree, f_law := f_law, d_law := PySem.W.fnOf "law" "law" (defArgs s_law) (defBody s_law) (defScope s_law) .none kV_law dc_law pm_law an_law cd_law ct_law, c_Area := C_Area, c_Both := C_Both, c_Box := C_Box, c_Either := C_Either, c_Everywhere := C_Everywhere, c_Outside := C_Outside }
  have T : Txt K w mg A := ⟨F_Box_has,
    b_Box_has,
    k_Box_has,
    ⟨a_Box_has, i_Box_has, k_Box_has⟩,
    F_Everywhere_has,
    b_Everywhere_has,
    k_Everywhere_has,
    ⟨a_Everywhere_has, i_Everywhere_has, k_Everywhere_has⟩,
    F_Both_has,
    b_Both_has,
    k_Both_has,
    ⟨a_Both_has, i_Both_has, k_Both_has⟩,
    F_Either_has,
    b_Either_has,
    k_Either_has,
    ⟨a_Either_has, i_Either_has, k_Either_has⟩,
    F_Outside_has,
    b_Outside_has,
    k_Outside_has,
    ⟨a_Outside_has, i_Outside_has, k_Outside_has⟩,
    F_Both_init,
    b_Both_init,
    k_Both_init,
    ⟨mk_Both, a_Both_init, i_Both_init, kc_Both⟩,
    F_Box_init,
    b_Box_init,
    k_Box_init,
    ⟨mk_Box, a_Box_init, i_Box_init, kc_Box⟩,
    F_Either_init,
    b_Either_init,
    k_Either_init,
    ⟨mk_Either, a_Either_init, i_Either_init, kc_Either⟩,
    F_Outside_init,
    b_Outside_init,
    k_Outside_init,
    ⟨mk_Outside, a_Outside_init, i_Outside_init, kc_Outside⟩,
    F_law_area,
    b_law_area,
    k_law_area,
    PySem.W.mg_of X G a_law_area,
    F_law_cell_at,
    b_law_cell_at,
    k_law_cell_at,
    PySem.W.mg_of X G a_law_cell_at,
    F_law_corners,
    b_law_corners,
    k_law_corners,
    PySem.W.mg_of X G a_law_corners,
    F_law_has,
    b_law_has,
    k_law_has,
    PySem.W.mg_of X G a_law_has,
    F_law_number,
    b_law_number,
    k_law_number,
    PySem.W.mg_of X G a_law_number,
    F_law_leaf,
    b_law_leaf,
    k_law_leaf,
    PySem.W.mg_of X G a_law_leaf,
    F_law_tree,
    b_law_tree,
    k_law_tree,
    PySem.W.mg_of X G a_law_tree,
    F_law,
    b_law,
    k_law,
    PySem.W.mg_of X G a_law,
    ⟨pg_Area, hd_Area, po_Area, sa_Area⟩,
    PySem.W.mg_of X G aC_Area,
    ⟨pg_Both, hd_Both, po_Both, sa_Both⟩,
    PySem.W.mg_of X G aC_Both,
    n_Both_one,
    n_Both_other,
    ⟨pg_Box, hd_Box, po_Box, sa_Box⟩,
    PySem.W.mg_of X G aC_Box,
    n_Box_bottom,
    n_Box_left,
    n_Box_right,
    n_Box_top,
    ⟨pg_Either, hd_Either, po_Either, sa_Either⟩,
    PySem.W.mg_of X G aC_Either,
    n_Either_one,
    n_Either_other,
    ⟨pg_Everywhere, hd_Everywhere, po_Everywhere, sa_Everywhere⟩,
    PySem.W.mg_of X G aC_Everywhere,
    ⟨pg_Outside, hd_Outside, po_Outside, sa_Outside⟩,
    PySem.W.mg_of X G aC_Outside,
    n_Outside_one,
    ⟨mk_Everywhere, in_Everywhere, kc_Everywhere⟩,
    by
      intro x hx
      simp only [tab_Area, List.mem_cons, List.not_mem_nil, or_false] at hx
      rcases hx with rfl | rfl | rfl | rfl | rfl
      · exact ⟨⟨⟨pg_Both, hd_Both, po_Both, sa_Both⟩, ic_a_Both, ic_n, ic_t, ic_m_Both⟩, ki_Both_Area⟩
      · exact ⟨⟨⟨pg_Box, hd_Box, po_Box, sa_Box⟩, ic_a_Box, ic_n, ic_t, ic_m_Box⟩, ki_Box_Area⟩
      · exact ⟨⟨⟨pg_Either, hd_Either, po_Either, sa_Either⟩, ic_a_Either, ic_n, ic_t, ic_m_Either⟩, ki_Either_Area⟩
      · exact ⟨⟨⟨pg_Everywhere, hd_Everywhere, po_Everywhere, sa_Everywhere⟩, ic_a_Everywhere, ic_n, ic_t, ic_m_Everywhere⟩, ki_Everywhere_Area⟩
      · exact ⟨⟨⟨pg_Outside, hd_Outside, po_Outside, sa_Outside⟩, ic_a_Outside, ic_n, ic_t, ic_m_Outside⟩, ki_Outside_Area⟩,
    PySem.W.mg_none_of X G z_bool,
    PySem.W.mg_none_of X G z_isinstance,
    PySem.W.mg_none_of X G z_len,
    PySem.W.mg_none_of X G z_range⟩
  exact ⟨_, fun s v => .of_eq rfl, fun base _ _ => ok_all T⟩
end My
open PySem PySem.W PyProof.Rows
set_option maxRecDepth 100000 in
set_option maxHeartbeats 0 in
theorem PySem.Challenge.cw_dustwalk_k29_areas_holds : PySem.Challenge.rw_dustwalk_k29_areas.Holds := by
  w_on; o_law; k_head; (case hw => w_witness2)
  k_fill
  refine L2.walk_ofK (l := PySem.Challenge.rw_dustwalk_k29_areas) (n := 63) (k := 21) (x := "_law_script") (CX := L2.CX0) (sp := fun K => L3.lowSp K My.sp_law0) rfl (by decide) rfl ⟨rfl, by decide, by decide⟩ (fun w h Y => PySem.W.kIn_of Y) ?F ?S ?C
  case F =>
    intro w mg fa h KX G hmg
    refine' My.all_mk KX G hmg ?aC_Area ?aC_Both ?aC_Box ?aC_Either ?aC_Everywhere ?aC_Outside ?a_Box_has ?i_Box_has ?l_Box_has ?c_Box_has ?k_Box_has ?a_Everywhere_has ?i_Everywhere_has ?l_Everywhere_has ?c_Everywhere_has ?k_Everywhere_has ?a_Both_has ?i_Both_has ?l_Both_has ?c_Both_has ?k_Both_has ?a_Either_has ?i_Either_has ?l_Either_has ?c_Either_has ?k_Either_has ?a_Outside_has ?i_Outside_has ?l_Outside_has ?c_Outside_has ?k_Outside_has ?a_Both_init ?i_Both_init ?l_Both_init ?c_Both_init ?k_Both_init ?a_Box_init ?i_Box_init ?l_Box_init ?c_Box_init ?k_Box_init ?a_Either_init ?i_Either_init ?l_Either_init ?c_Either_init ?k_Either_init ?a_Outside_init ?i_Outside_init ?l_Outside_init ?c_Outside_init ?k_Outside_init ?a_law_area ?l_law_area ?c_law_area ?k_law_area ?a_law_cell_at ?l_law_cell_at ?c_law_cell_at ?k_law_cell_at ?a_law_corners ?l_law_corners ?c_law_corners ?k_law_corners ?a_law_has ?l_law_has ?c_law_has ?k_law_has ?a_law_number ?l_law_number ?c_law_number ?k_law_number ?a_law_leaf ?l_law_leaf ?c_law_leaf ?k_law_leaf ?a_law_tree ?l_law_tree ?c_law_tree ?k_law_tree ?a_law ?l_law ?c_law ?k_law ?pg_Area ?hd_Area ?po_Area ?sa_Area ?pg_Both ?hd_Both ?po_Both ?sa_Both ?mk_Both ?kc_Both ?n_Both_one ?n_Both_other ?pg_Box ?hd_Box ?po_Box ?sa_Box ?mk_Box ?kc_Box ?n_Box_bottom ?n_Box_left ?n_Box_right ?n_Box_top ?pg_Either ?hd_Either ?po_Either ?sa_Either ?mk_Either ?kc_Either ?n_Either_one ?n_Either_other ?pg_Everywhere ?hd_Everywhere ?po_Everywhere ?sa_Everywhere ?pg_Outside ?hd_Outside ?po_Outside ?sa_Outside ?mk_Outside ?kc_Outside ?n_Outside_one ?mk_Everywhere ?kc_Everywhere ?in_Everywhere ?ic_n ?ic_t ?ic_a_Both ?ic_m_Both ?ki_Both_Area ?ic_a_Box ?ic_m_Box ?ki_Box_Area ?ic_a_Either ?ic_m_Either ?ki_Either_Area ?ic_a_Everywhere ?ic_m_Everywhere ?ki_Everywhere_Area ?ic_a_Outside ?ic_m_Outside ?ki_Outside_Area ?z_bool ?z_isinstance ?z_len ?z_range
    (case aC_Area => k_is)
    (case aC_Both => k_is)
    (case aC_Box => k_is)
    (case aC_Either => k_is)
    (case aC_Everywhere => k_is)
    (case aC_Outside => k_is)
    (case a_Box_has => k_is)
    (case i_Box_has => k_is)
    (case l_Box_has => k_is)
    (case c_Box_has => k_is)
    (case k_Box_has => k_is)
    (case a_Everywhere_has => k_is)
    (case i_Everywhere_has => k_is)
    (case l_Everywhere_has => k_is)
    (case c_Everywhere_has => k_is)
    (case k_Everywhere_has => k_is)
    (case a_Both_has => k_is)
    (case i_Both_has => k_is)
    (case l_Both_has => k_is)
    (case c_Both_has => k_is)
    (case k_Both_has => k_is)
    (case a_Either_has => k_is)
    (case i_Either_has => k_is)
    (case l_Either_has => k_is)
    (case c_Either_has => k_is)
    (case k_Either_has => k_is)
    (case a_Outside_has => k_is)
    (case i_Outside_has => k_is)
    (case l_Outside_has => k_is)
    (case c_Outside_has => k_is)
    (case k_Outside_has => k_is)
    (case a_Both_init => k_is)
    (case i_Both_init => k_is)
    (case l_Both_init => k_is)
    (case c_Both_init => k_is)
    (case k_Both_init => k_is)
    (case a_Box_init => k_is)
    (case i_Box_init => k_is)
    (case l_Box_init => k_is)
    (case c_Box_init => k_is)
    (case k_Box_init => k_is)
    (case a_Either_init => k_is)
    (case i_Either_init => k_is)
    (case l_Either_init => k_is)
    (case c_Either_init => k_is)
    (case k_Either_init => k_is)
    (case a_Outside_init => k_is)
    (case i_Outside_init => k_is)
    (case l_Outside_init => k_is)
    (case c_Outside_init => k_is)
    (case k_Outside_init => k_is)
    (case a_law_area => k_is)
    (case l_law_area => k_is)
    (case c_law_area => k_is)
    (case k_law_area => k_is)
    (case a_law_cell_at => k_is)
    (case l_law_cell_at => k_is)
    (case c_law_cell_at => k_is)
    (case k_law_cell_at => k_is)
    (case a_law_corners => k_is)
    (case l_law_corners => k_is)
    (case c_law_corners => k_is)
    (case k_law_corners => k_is)
    (case a_law_has => k_is)
    (case l_law_has => k_is)
    (case c_law_has => k_is)
    (case k_law_has => k_is)
    (case a_law_number => k_is)
    (case l_law_number => k_is)
    (case c_law_number => k_is)
    (case k_law_number => k_is)
    (case a_law_leaf => k_is)
    (case l_law_leaf => k_is)
    (case c_law_leaf => k_is)
    (case k_law_leaf => k_is)
    (case a_law_tree => k_is)
    (case l_law_tree => k_is)
    (case c_law_tree => k_is)
    (case k_law_tree => k_is)
    (case a_law => k_is)
    (case l_law => k_is)
    (case c_law => k_is)
    (case k_law => k_is)
    (case pg_Area => k_is)
    (case hd_Area => k_is)
    (case po_Area => k_is)
    (case sa_Area => k_is)
    (case pg_Both => k_is)
    (case hd_Both => k_is)
    (case po_Both => k_is)
    (case sa_Both => k_is)
    (case mk_Both => k_is)
    (case kc_Both => k_is)
    (case n_Both_one => k_is)
    (case n_Both_other => k_is)
    (case pg_Box => k_is)
    (case hd_Box => k_is)
    (case po_Box => k_is)
    (case sa_Box => k_is)
    (case mk_Box => k_is)
    (case kc_Box => k_is)
    (case n_Box_bottom => k_is)
    (case n_Box_left => k_is)
    (case n_Box_right => k_is)
    (case n_Box_top => k_is)
    (case pg_Either => k_is)
    (case hd_Either => k_is)
    (case po_Either => k_is)
    (case sa_Either => k_is)
    (case mk_Either => k_is)
    (case kc_Either => k_is)
    (case n_Either_one => k_is)
    (case n_Either_other => k_is)
    (case pg_Everywhere => k_is)
    (case hd_Everywhere => k_is)
    (case po_Everywhere => k_is)
    (case sa_Everywhere => k_is)
    (case pg_Outside => k_is)
    (case hd_Outside => k_is)
    (case po_Outside => k_is)
    (case sa_Outside => k_is)
    (case mk_Outside => k_is)
    (case kc_Outside => k_is)
    (case n_Outside_one => k_is)
    (case mk_Everywhere => k_is)
    (case kc_Everywhere => k_is)
    (case in_Everywhere => k_is)
    (case ic_n => k_is)
    (case ic_t => k_is)
    (case ic_a_Both => k_is)
    (case ic_m_Both => k_is)
    (case ki_Both_Area => kit_is)
    (case ic_a_Box => k_is)
    (case ic_m_Box => k_is)
    (case ki_Box_Area => kit_is)
    (case ic_a_Either => k_is)
    (case ic_m_Either => k_is)
    (case ki_Either_Area => kit_is)
    (case ic_a_Everywhere => k_is)
    (case ic_m_Everywhere => k_is)
    (case ki_Everywhere_Area => kit_is)
    (case ic_a_Outside => k_is)
    (case ic_m_Outside => k_is)
    (case ki_Outside_Area => kit_is)
    (case z_bool => k_is)
    (case z_isinstance => k_is)
    (case z_len => k_is)
    (case z_range => k_is)
  case S => exact My.law_start
  case C => exact fun _ _ _ _ z => z

