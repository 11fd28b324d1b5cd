import PyProof.Rows.All
import Wide.All
import OpenK.AllK
import Wide.FinOn
import Lean
import PyProof.EqAt
import PyProof.EqKinds
import PyProof.TupleCall
import PyProof.ZipIter
import PyProof.ExcClass3
import PyProof.RulesTry
import OpenK.KOwn
import PyProof.ExcBaseAll.ValueError
import PyProof.RulesAs
import PyProof.NsDelKeeps
import KE.KIsAll
import PyProof.ExcAttrAll.ValueError
import KE.KEqDict
import PySem.Challenge.RW_dustwalk_k03_floors_refused
set_option Elab.async false
set_option linter.all false
set_option maxRecDepth 100000
namespace L2
open PySem PySem.Spec PyProof.Rows
abbrev Key := Sum Int Str
def keyIs : Key → Value → Bool
  | .inl k, v => Value.isInt k v
  | .inr x, v => Value.isStrOf x v
def keyH (w : World) : Key → Int
  | .inl k => hashInt k
  | .inr x => hashStr w x
theorem keyIs_shape : ∀ {k : Key} {v : Value}, keyIs k v = true → (∃ i t, k = Sum.inl i ∧ v = Value.int i t) ∨ (∃ x t, k = Sum.inr x ∧ v = Value.str x t)
  | .inl i, v, h => by
    obtain ⟨t, e⟩ := Value.isInt_shape (k := i) (v := v) h
    exact .inl ⟨i, t, rfl, e⟩
  | .inr x, v, h => by
    obtain ⟨t, e⟩ := Value.isStrOf_shape (x := x) (v := v) h
    exact .inr ⟨x, t, rfl, e⟩
theorem keyIs_int (i : Int) (t : Tok) : keyIs (.inl i) (.int i t) = true := by simp [keyIs, Value.isInt]
theorem keyIs_str (x : Str) (t : Tok) : keyIs (.inr x) (.str x t) = true := by simp [keyIs, Value.isStrOf]
theorem key_ll (a b : Int) : decide ((Sum.inl a : Key) = Sum.inl b) = (a == b) := by
  by_cases e : a = b
  · subst e; simp
  · have h : ¬ (Sum.inl a : Key) = Sum.inl b := fun q => e (Sum.inl.inj q)
    rw [decide_eq_false h]
    exact (beq_eq_false_iff_ne.mpr e).symm
theorem key_rr (a b : Str) : decide ((Sum.inr a : Key) = Sum.inr b) = decide (a = b) := by
  by_cases e : a = b
  · subst e; simp
  · have h : ¬ (Sum.inr a : Key) = Sum.inr b := fun q => e (Sum.inr.inj q)
    rw [decide_eq_false h, decide_eq_false e]
theorem key_lr (a : Int) (b : Str) : decide ((Sum.inl a : Key) = Sum.inr b) = false := decide_eq_false (fun q => nomatch q)
theorem key_rl (a : Str) (b : Int) : decide ((Sum.inr a : Key) = Sum.inl b) = false := decide_eq_false (fun q => nomatch q)
def mixKind (prog : Program) (w : World) : PySem.KeyKind prog w Key where
  is := keyIs
  hash := keyH w
  inj := fun v a b ha hb => by
    rcases keyIs_shape ha with ⟨i, t, rfl, rfl⟩ | ⟨x, t, rfl, rfl⟩
    · rcases keyIs_shape hb with ⟨j, u, rfl, e⟩ | ⟨y, u, rfl, e⟩
      · injection e with e1 _; rw [e1]
      · exact nomatch e
    · rcases keyIs_shape hb with ⟨j, u, rfl, e⟩ | ⟨y, u, rfl, e⟩
      · exact nomatch e
      · injection e with e1 _; rw [e1]
  byValue := fun k v h => by
    rcases keyIs_shape h with ⟨i, t, rfl, rfl⟩ | ⟨x, t, rfl, rfl⟩ <;> rfl
  pyHash := fun hv h => by
    rcases keyIs_shape hv with ⟨i, t, rfl, rfl⟩ | ⟨x, t, rfl, rfl⟩
    · exact wpAny_pyHash_int h
    · exact wpAny_pyHash_str h
  eqBool := fun hu hv h => by
    rcases keyIs_shape hu with ⟨i, t, rfl, rfl⟩ | ⟨x, t, rfl, rfl⟩
    · rcases keyIs_shape hv with ⟨j, u, rfl, rfl⟩ | ⟨y, u, rfl, rfl⟩
      · rw [key_ll] at h; exact wpAny_eqBool_int h
      · rw [key_lr] at h; exact SeqAt.EqAt.int_str i t y u _ _ _ _ h
    · rcases keyIs_shape hv with ⟨j, u, rfl, rfl⟩ | ⟨y, u, rfl, rfl⟩
      · rw [key_rl] at h; exact SeqAt.EqAt.str_int x t j u _ _ _ _ h
      · rw [key_rr] at h; exact wpAny_eqBool_str h
  «strs» := fun k x t v h => by
    rcases keyIs_shape h with ⟨i, u, rfl, e⟩ | ⟨y, u, rfl, e⟩
    · exact nomatch e
    · injection e with e1 _
      subst e1
      cases v <;> rfl
theorem mixKind_int (prog : Program) (w : World) (i : Int) (t : Tok) : (mixKind prog w).is (.inl i) (.int i t) = true := keyIs_int i t
theorem mixKind_str (prog : Program) (w : World) (x : Str) (t : Tok) : (mixKind prog w).is (.inr x) (.str x t) = true := keyIs_str x t
end L2
namespace L2
open PySem PySem.Spec PyProof.Rows
inductive V where
  | non | bl (b : Bool) | int (i : Int) | str (x : Str) | byt (b : Array UInt8) | flt (b : UInt64) | ref (a : Addr) | ty (n : String)
  deriving DecidableEq
def RelV : V → Value → Prop
  | .non, u => u = Value.none
  | .bl b, u => u = Value.bool b
  | .int i, u => ∃ t, u = Value.int i t
  | .str x, u => ∃ t, u = Value.str x t
  | .byt b, u => ∃ t, u = Value.bytes b t
  | .flt b, u => ∃ t, u = Value.float b t
  | .ref a, u => u = Value.ref a
  | .ty n, u => u = Value.type n
abbrev Vals : List V → List Value → Prop := Paired RelV
theorem Vals.length {xs : List V} {us : List Value} (r : Vals xs us) : xs.length = us.length := Paired.length r
theorem Vals.get : ∀ {xs : List V} {us : List Value} {i : Nat} {x : V}, Vals xs us → xs[i]? = some x → ∃ u, us[i]? = some u ∧ RelV x u
  | _, _, _, _, .nil, e => by simp at e
  | _, _, 0, _, .cons r _, e => by simp at e; subst e; exact ⟨_, rfl, r⟩
  | _, _, i + 1, x, .cons _ t, e => by
    obtain ⟨u, h1, h2⟩ := Vals.get (i := i) (x := x) t (by simpa using e)
    exact ⟨u, by simpa using h1, h2⟩
theorem Vals.set {x : V} {u : Value} (r : RelV x u) : ∀ {xs : List V} {us : List Value} (i : Nat), Vals xs us → Vals (xs.set i x) (us.set i u)
  | _, _, _, .nil => .nil
  | _, _, 0, .cons _ t => .cons r t
  | _, _, i + 1, .cons q t => .cons q (Vals.set r i t)
theorem Vals.append : ∀ {xs ys : List V} {us ws : List Value}, Vals xs us → Vals ys ws → Vals (xs ++ ys) (us ++ ws)
  | _, _, _, _, .nil, s => s
  | _, _, _, _, .cons r t, s => .cons r (Vals.append t s)
theorem Vals.take : ∀ {xs : List V} {us : List Value} (n : Nat), Vals xs us → Vals (xs.take n) (us.take n)
  | _, _, 0, _ => .nil
  | _, _, _ + 1, .nil => .nil
  | _, _, n + 1, .cons r t => .cons r (Vals.take n t)
theorem Vals.drop : ∀ {xs : List V} {us : List Value} (n : Nat), Vals xs us → Vals (xs.drop n) (us.drop n)
  | _, _, 0, r => r
  | _, _, _ + 1, .nil => .nil
  | _, _, n + 1, .cons _ t => Vals.drop n t
def RelO : Option V → Option Value → Prop
  | some v, some u => RelV v u
  | none, none => True
  | _, _ => False
def KV {κ : Type} : List (κ × V) → List (κ × Value) → Prop := Paired fun (p : κ × V) (q : κ × Value) => p.1 = q.1 ∧ RelV p.2 q.2
def kV : Key → V
  | .inl i => .int i
  | .inr x => .str x
inductive HO where
  | lst (xs : List V)
  | tup (xs : List V)
  | dK (kvs : List (Key × V)) | dT (kvs : List (List Key × V))
  | set (S : Int → Bool) (n : Nat)
  | ins (C dx : Addr) (fs : List (Str × V))
  | own (x : Addr)
  | xd (fs : List (Str × V))
  | met (f x : Addr)
  | rng (lo hi : Int)
  | frz (o : Obj) (u : HO)
  | tbl (ps : Array Value)
  | ext (φ : Heap → Prop)
abbrev Hp := Addr → Option HO
def upd (H : Hp) (a : Addr) (o : HO) : Hp := fun b => if b = a then some o else H b
theorem upd_same {H : Hp} {a : Addr} {o : HO} : upd H a o a = some o := by unfold upd; rw [if_pos rfl]
theorem upd_ne {H : Hp} {a b : Addr} {o : HO} (h : b ≠ a) : upd H a o b = H b := by unfold upd; rw [if_neg h]
theorem ne_of {H : Hp} {a b : Addr} {o u : HO} (h : H a = some o) (h' : H b = some u) (d : o ≠ u) : a ≠ b := by
  intro e; subst e; rw [h] at h'; exact d (Option.some.inj h')
theorem ne_of_none {H : Hp} {a b : Addr} {o : HO} (h : H a = some o) (h' : H b = none) : a ≠ b := by
  intro e; subst e; rw [h] at h'; cases h'
def TupAt (K : PySem.W.Frag) (H : Hp) (a : Addr) (vs : List V) : Prop :=
  H a = some (.tup vs) ∨ ∃ (o : Obj) (its : Array Value) (n : Nat), K.lookup a = some o ∧ o.cls = .type "tuple" ∧ o.data = .seq its n ∧ its.size ≤ sizeLine ∧ Vals vs its.toList
theorem TupAt.mono {K : PySem.W.Frag} {H H' : Hp} {a : Addr} {vs : List V} (t : TupAt K H a vs) (h : ∀ b xs, H b = some (.tup xs) → H' b = some (.tup xs)) : TupAt K H' a vs := by
  rcases t with t | t
  · exact .inl (h _ _ t)
  · exact .inr t
section
variable (P : Program) (w : World) (K : PySem.W.Frag)
def ObjOk (H : Hp) (h : Heap) (a : Addr) : HO → Prop
  | .lst xs => xs.length ≤ sizeLine ∧ ∃ (its : List Value) (n : Nat), Vals xs its ∧ h.get? a = some { cls := .type "list", data := .seq its.toArray n }
  | .tup xs => xs.length ≤ sizeLine ∧ ∃ its : List Value, Vals xs its ∧ IsTup h a its.toArray
  | .dK kvs => kvs.length ≤ sizeLine ∧ (a == sysModules) = false ∧ ∃ vs, KV kvs vs ∧ h.DictOf (mixKind P w) a vs
  | .dT kvs => kvs.length ≤ sizeLine ∧ (a == sysModules) = false ∧ ∃ xs : List (List Key × Addr × Value),
      Paired (fun (p : List Key × V) (q : List Key × Addr × Value) => p.1 = q.1 ∧ TupAt K H q.2.1 (p.1.map kV) ∧ RelV p.2 q.2.2) kvs xs ∧
      ∃ o es ep, h.get? a = some o ∧ o.ExactDict ∧ o.data = .dict es ep ∧ es.toList = xs.map (entryOfKey (tupleKind (mixKind P w))) ∧ (xs.map (·.1)).Nodup
  | .set S n => h.SetOf (intKind P w) a S n
  | .ins C dx fs => H dx = some (.own a) ∧ fs.length ≤ 1000 ∧ dx ≠ a ∧ h.get? a = some (PySem.W.instObj C dx) ∧
      ∃ mA, h.Ns1 dx mA ∧ (∀ f, RelO (fs.lookup f) (mA f)) ∧ PySem.Within mA (fs.map (·.1))
  | .own _ => ∃ o, h.get? a = some o
  | .xd fs => ∃ mA, h.Ns1 a mA ∧ ∀ f, RelO (fs.lookup f) (mA f)
  | .rng lo hi => ∃ t u v, h.get? a = some { cls := .type "range", data := .fields #[.int lo t, .int hi u, .int 1 v] }
  | .frz o u => h.get? a = some o ∧ ObjOk H h a u
  | .tbl ps => h.get? a = some { cls := .none, data := .fields ps }
  | .met f x => h.get? a = some (PySem.W.methodObj (.ref f) (.ref x))
  | .ext φ => φ h ∧ (∃ o, h.get? a = some o) ∧ ∀ h1 h2 : Heap, φ h1 → (∀ o, h1.get? a = some o → h2.get? a = some o) → φ h2
def HOk (H : Hp) (h : Heap) : Prop := ∀ a o, H a = some o → ObjOk P w K H h a o
end
section
variable {P : Program} {w : World} {H H' : Hp} {h h' : Heap} {a : Addr} {o : HO} {K : PySem.W.Frag}
theorem ObjOk.lt (x : ObjOk P w K H h a o) : a < h.objs.size := by
  cases o with
  | lst xs => obtain ⟨_, _, _, _, e⟩ := x; exact Heap.lt_size e
  | tup xs => obtain ⟨_, _, _, p⟩ := x; exact p.lt
  | dK kvs => obtain ⟨_, _, _, _, o, _, _, e, _⟩ := x; exact Heap.lt_size e
  | dT kvs => obtain ⟨_, _, _, _, o, _, _, e, _⟩ := x; exact Heap.lt_size e
  | set S n => obtain ⟨o, _, _, _, e, _⟩ := x; exact Heap.lt_size e
  | ins C dx fs => obtain ⟨_, _, _, e, _⟩ := x; exact Heap.lt_size e
  | own y => obtain ⟨_, e⟩ := x; exact Heap.lt_size e
  | xd fs => obtain ⟨_, ⟨_, _, _, e, _⟩, _⟩ := x; exact Heap.lt_size e
  | rng lo hi => obtain ⟨_, _, _, e⟩ := x; exact Heap.lt_size e
  | frz ob u => obtain ⟨e, _⟩ := x; exact Heap.lt_size e
  | tbl ps => exact Heap.lt_size (show h.get? a = some _ from x)
  | met f y => exact Heap.lt_size (show h.get? a = some _ from x)
  | ext φ => obtain ⟨_, ⟨_, e⟩, _⟩ := x; exact Heap.lt_size e
theorem Paired.mapP {α β : Type} {F G : α → β → Prop} : ∀ {l₁ : List α} {l₂ : List β}, Paired F l₁ l₂ → (∀ a b, F a b → G a b) → Paired G l₁ l₂
  | _, _, .nil, _ => .nil
  | _, _, .cons r t, f => .cons (f _ _ r) (Paired.mapP t f)
theorem ObjOk.stay (x : ObjOk P w K H h a o) (k : ∀ b u, (b = a ∨ H b = some (.own a)) → h.get? b = some u → h'.get? b = some u)
    (ho : ∀ b, H b = some (.own a) → H' b = some (.own a)) (ht : ∀ b xs, H b = some (.tup xs) → H' b = some (.tup xs)) : ObjOk P w K H' h' a o := by
  induction o with
  | lst xs => obtain ⟨z, its, n, r, e⟩ := x; exact ⟨z, its, n, r, k _ _ (.inl rfl) e⟩
  | tup xs => obtain ⟨z, its, r, ob, e, c⟩ := x; exact ⟨z, its, r, ob, k _ _ (.inl rfl) e, c⟩
  | dK kvs => obtain ⟨z, y, vs, r, ob, es, ep, e, c⟩ := x; exact ⟨z, y, vs, r, ob, es, ep, k _ _ (.inl rfl) e, c⟩
  | dT kvs =>
    obtain ⟨z, y, xs, r, ob, es, ep, e, c⟩ := x
    exact ⟨z, y, xs, Paired.mapP r fun p q z => ⟨z.1, z.2.1.mono ht, z.2.2⟩, ob, es, ep, k _ _ (.inl rfl) e, c⟩
  | set S n => obtain ⟨ob, es, ep, t, e, c⟩ := x; exact ⟨ob, es, ep, t, k _ _ (.inl rfl) e, c⟩
  | ins C dx fs =>
    obtain ⟨d, z, ne, e, mA, ⟨od, es, ep, e2, c⟩, r⟩ := x
    exact ⟨ho _ d, z, ne, k _ _ (.inl rfl) e, mA, ⟨od, es, ep, k _ _ (.inr d) e2, c⟩, r⟩
  | own y => obtain ⟨ob, e⟩ := x; exact ⟨ob, k _ _ (.inl rfl) e⟩
  | xd fs => obtain ⟨mA, ⟨od, es, ep, e, c⟩, r⟩ := x; exact ⟨mA, ⟨od, es, ep, k _ _ (.inl rfl) e, c⟩, r⟩
  | rng lo hi => obtain ⟨t, u, v, e⟩ := x; exact ⟨t, u, v, k _ _ (.inl rfl) e⟩
  | frz ob u ih => obtain ⟨e, q⟩ := x; exact ⟨k _ _ (.inl rfl) e, ih q⟩
  | tbl ps =>
    have e : h.get? a = some { cls := .none, data := .fields ps } := x
    show h'.get? a = some { cls := .none, data := .fields ps }
    exact k a _ (.inl rfl) e
  | met f y =>
    have e : h.get? a = some (PySem.W.methodObj (.ref f) (.ref y)) := x
    show h'.get? a = some (PySem.W.methodObj (.ref f) (.ref y))
    exact k a _ (.inl rfl) e
  | ext φ => obtain ⟨p, ⟨o, e⟩, st⟩ := x; exact ⟨st _ _ p fun o q => k _ _ (.inl rfl) q, ⟨o, k _ _ (.inl rfl) e⟩, st⟩
theorem HOk.lt (x : HOk P w K H h) (e : H a = some o) : a < h.objs.size := (x a o e).lt
theorem HOk.fresh (x : HOk P w K H h) (e : h.objs.size ≤ a) : H a = none := by
  cases q : H a with
  | none => rfl
  | some u => exact absurd (Nat.lt_of_lt_of_le (x.lt q) e) (Nat.lt_irrefl _)
theorem HOk.kept (x : HOk P w K H h) (k : ∀ b u, h.get? b = some u → h'.get? b = some u) : HOk P w K H h' := fun a o e =>
  (x a o e).stay (fun b u _ q => k b u q) (fun _ q => q) fun _ _ q => q
theorem HOk.laid (x : HOk P w K H h) (k : ∀ b u, h.get? b = some u → h'.get? b = some u) (hp : h.objs.size ≤ a) (new : ObjOk P w K (upd H a o) h' a o) : HOk P w K (upd H a o) h' := fun b u e => by
  have hn := x.fresh hp
  by_cases hb : b = a
  · subst hb; rw [upd_same] at e; cases e; exact new
  · rw [upd_ne hb] at e
    exact (x b u e).stay (fun c v _ q => k c v q) (fun c q => by rw [upd_ne (ne_of_none q hn)]; exact q) fun c xs q => by rw [upd_ne (ne_of_none q hn)]; exact q
end
def Rd (H : Hp) (a : Addr) (u : HO) : Prop := H a = some u ∨ ∃ o, H a = some (.frz o u)
theorem Rd.ok {P : Program} {w : World} {K : PySem.W.Frag} {H : Hp} {h : Heap} {a : Addr} {u : HO} (r : Rd H a u) (x : HOk P w K H h) : ObjOk P w K H h a u := by
  rcases r with r | ⟨o, r⟩
  · exact x a u r
  · obtain ⟨_, q⟩ := x a _ r
    exact q
def Mut : Option HO → Prop
  | some (.lst _) => True
  | some (.dK _) => True
  | some (.dT _) => True
  | some (.set _ _) => True
  | some (.ins _ _ _) => True
  | some (.ext _) => True
  | _ => False
section
variable {P : Program} {w : World} {H : Hp} {h h' : Heap} {x e : Addr} {o' : HO} {K : PySem.W.Frag}
theorem HOk.write (ok : HOk P w K H h) (mu : Mut (H x)) (he : e = x ∨ H e = some (.own x)) (k : ∀ b u, b ≠ e → h.get? b = some u → h'.get? b = some u) (heo : ∃ u, h'.get? e = some u)
    (new : ObjOk P w K (upd H x o') h' x o') : HOk P w K (upd H x o') h' := fun b u q => by
  have nown : ∀ c y, H c = some (.own y) → c ≠ x := fun c y r z => by subst z; rw [r] at mu; exact mu
  have ntup : ∀ c xs, H c = some (.tup xs) → c ≠ x := fun c xs r z => by subst z; rw [r] at mu; exact mu
  by_cases hb : b = x
  · subst hb; rw [upd_same] at q; cases q; exact new
  · rw [upd_ne hb] at q
    by_cases hbe : b = e
    · have q' : H b = some (.own x) := by
        rcases he with z | z
        · exact absurd (hbe.trans z) hb
        · rw [hbe]; exact z
      rw [q] at q'; cases q'
      obtain ⟨v, hv⟩ := heo
      exact ⟨v, by rw [hbe]; exact hv⟩
    · refine (ok b u q).stay (fun c v hc r => k c v ?_ r) (fun c r => by rw [upd_ne (nown c b r)]; exact r) fun c xs r => by rw [upd_ne (ntup c xs r)]; exact r
      rcases hc with rfl | hc
      · exact hbe
      · rintro rfl
        rcases he with z | z
        · exact nown c b hc z
        · rw [hc] at z; cases z; exact hb rfl
end
structure Un (fs ex : List Addr) (H H' : Hp) (h h' : Heap) : Prop where
  keep : ∀ b o, h.get? b = some o → H b = none → b ∉ fs → b ∉ ex → h'.get? b = some o
  slot : ∀ b o, h.get? b = some o → H b = none → b ∈ fs → b ∉ ex → ∃ sl, h'.get? b = some { o with slots := sl }
  free : ∀ b o, h.get? b = some o → H b = none → b ∉ ex → H' b = none
  there : ∀ b o, h.get? b = some o → b ∉ ex → ∃ o', h'.get? b = some o'
  tups : ∀ b xs, H b = some (.tup xs) → H' b = some (.tup xs)
  frzs : ∀ b o u, H b = some (.frz o u) → H' b = some (.frz o u)
  tbls : ∀ b ps, H b = some (.tbl ps) → ∃ more, H' b = some (.tbl (ps ++ more))
section
variable {fs fs' ex ex' : List Addr} {H H1 H2 : Hp} {h h1 h2 h' : Heap} {a x e : Addr} {o : HO}
theorem Un.any (u : Un fs ex H H1 h h1) {b : Addr} {ob : Obj} (q : h.get? b = some ob) (n : H b = none) (hx : b ∉ ex) : ∃ sl, h1.get? b = some { ob with slots := sl } := by
  by_cases hb : b ∈ fs
  · exact u.slot b ob q n hb hx
  · exact ⟨ob.slots, u.keep b ob q n hb hx⟩
theorem Un.kept (k : ∀ b u, h.get? b = some u → h'.get? b = some u) : Un fs ex H H h h' :=
  ⟨fun b ob q _ _ _ => k b ob q, fun b ob q _ _ _ => ⟨ob.slots, k b ob q⟩, fun _ _ _ n _ => n, fun b ob q _ => ⟨ob, k b ob q⟩, fun _ _ q => q, fun _ _ _ q => q, fun _ ps q => ⟨#[], by rw [q]; simp⟩⟩
theorem Un.refl : Un fs ex H H h h := Un.kept fun _ _ q => q
theorem Un.laid (k : ∀ b u, h.get? b = some u → h'.get? b = some u) (hp : h.objs.size ≤ a) (hn : H a = none) : Un fs ex H (upd H a o) h h' where
  keep := fun b u q _ _ _ => k b u q
  slot := fun b u q _ _ _ => ⟨u.slots, k b u q⟩
  free := fun b u q n _ => by rw [upd_ne (Nat.ne_of_lt (Nat.lt_of_lt_of_le (Heap.lt_size q) hp))]; exact n
  there := fun b u q _ => ⟨u, k b u q⟩
  tups := fun b xs q => by rw [upd_ne (ne_of_none q hn)]; exact q
  frzs := fun b u xs q => by rw [upd_ne (ne_of_none q hn)]; exact q
  tbls := fun b ps q => ⟨#[], by rw [upd_ne (ne_of_none q hn), q]; simp⟩
theorem Un.write (mu : Mut (H x)) (he : e = x ∨ H e = some (.own x)) (k : ∀ b u, b ≠ e → h.get? b = some u → h'.get? b = some u) (heo : ∃ u, h'.get? e = some u) : Un fs ex H (upd H x o) h h' := by
  have hx : ∀ b, H b = none → b ≠ x := fun b n z => by subst z; rw [n] at mu; exact mu
  have hb : ∀ b, H b = none → b ≠ e := fun b n z => by
    subst z
    rcases he with r | r
    · exact hx b n r
    · rw [n] at r; cases r
  have hm : ∀ b u, H b = some u → ¬ Mut (some u) → b ≠ x := fun b u q nm z => by subst z; rw [q] at mu; exact nm mu
  refine ⟨fun b u q n _ _ => k b u (hb b n) q, fun b u q n _ _ => ⟨u.slots, k b u (hb b n) q⟩, fun b u q n _ => by rw [upd_ne (hx b n)]; exact n, fun b u q _ => ?_,
    fun b xs q => by rw [upd_ne (hm b _ q fun z => z)]; exact q, fun b u xs q => by rw [upd_ne (hm b _ q fun z => z)]; exact q, fun b ps q => ⟨#[], by rw [upd_ne (hm b _ q fun z => z), q]; simp⟩⟩
  by_cases hbe : b = e
  · subst hbe; exact heo
  · exact ⟨u, k b u hbe q⟩
end
def trk (h : Heap) (H : Hp) : List Addr := (List.range h.objs.size).filter fun a => (H a).isSome
def hidT (h : Heap) (H : Hp) : Heap := PySem.W.hideAll h (trk h H)
theorem hidT_size (h : Heap) (H : Hp) : (hidT h H).objs.size = h.objs.size := PySem.W.hideAll_size _ _
theorem hidT_get {h : Heap} {H : Hp} {b : Addr} {o : Obj} (e : h.get? b = some o) (n : H b = none) : (hidT h H).get? b = some o :=
  PySem.W.hideAll_get _ e fun hm => by
    have q : (H b).isSome = true := (List.mem_filter.mp hm).2
    rw [n] at q; simp at q
theorem of_hidT {h : Heap} {H : Hp} {b : Addr} {o : Obj} (e : (hidT h H).get? b = some o) : h.get? b = some o ∧ H b = none := by
  have e' : h.get? b = some o := PySem.W.of_hideAll (trk h H) e
  refine ⟨e', ?_⟩
  cases q : H b with
  | none => rfl
  | some x =>
    have hm : b ∈ trk h H := List.mem_filter.mpr ⟨List.mem_range.mpr (Heap.lt_size e'), by simp [q]⟩
    have z : (hidT h H).get? b = none := PySem.W.hideAll_none (trk h H) hm
    rw [z] at e; cases e
end L2
namespace L2
open PySem PySem.Spec PyProof.Rows
structure Mod (K : PySem.W.Frag) (mg : Str → Option Value) (base : Heap) : Prop where
  kin : K.In base
  glob : base.Ns mainGlobals mg
  blt : ∃ mb, base.Ns builtinsNs mb ∧ ∀ x : Str, x ≠ "__name__" → mb x = bootBuiltins x
  nolimit : base.NoLimit
/-- the context: a def's body (or a comprehension's block) running. base: fixed through the whole law; s₀, H₀: the entry; outer: the frames whose slots others may change (a def's callers); stack: all frames that run;
   ex: iterators that were made ahead of the entry and are walked here (a comprehension's); fn: the names whose cells were made at the entry (a def: all; a comprehension's block: its own); calm: not within an except suite; pn: pins that every state bears; xe: what is wanted of an exception that leaves the code -/
structure Cx where
  prog : Program
  w : World
  K : PySem.W.Frag
  mg : Str → Option Value
  base : Heap
  A : Around
  N : List Str
  s₀ : Shared
  H₀ : Hp
  env : Env
  outer : List Env
  stack : List Env
  ex : List Addr
  fn : Str → Bool
  calm : Bool
  pn : List (Addr × Obj)
  xe : Value → Shared → Prop
def frs (l : List Env) : List Addr := l.filterMap (·.frame)
abbrev Cx.fs (X : Cx) : List Addr := frs X.outer
def Vis (sc : Scope) (x : Str) : Prop := sc.names.lookup x = some .local ∨ sc.names.lookup x = some .cell ∨ sc.names.lookup x = some .free
def Loc (sc : Scope) (x : Str) : Prop := sc.names.lookup x = some .local ∨ sc.names.lookup x = some .cell
def Look (env : Env) (h : Heap) (m : Str → Option Value) (x : Str) (u : Value) : Prop :=
  (env.kindOf x = some .local ∧ m x = some u) ∨ ((env.kindOf x = some .cell ∨ env.kindOf x = some .free) ∧ ∃ c, env.cells.lookup x = some c ∧ h.IsCell c (some u))
structure Cx.Ok (X : Cx) : Prop where
  mod : Mod X.K X.mg X.base
  kind : X.env.scope.kind = .function
  glob : X.env.globals = mainGlobals
  blt : X.env.builtins = builtinsNs
  above : X.s₀.heap.objs.size ≤ X.env.locals
  inj : ∀ x y c, X.env.cells.lookup x = some c → X.env.cells.lookup y = some c → x = y
  has : ∀ x, (X.env.kindOf x = some .cell ∨ X.env.kindOf x = some .free) → ∃ c, X.env.cells.lookup x = some c
  cab : ∀ x c, X.fn x = true → X.env.cells.lookup x = some c → X.s₀.heap.objs.size ≤ c
  hd : X.calm = true → X.A.handled = none
  frames : X.A.frames = some X.stack
  stk : X.stack = X.outer ∨ (X.stack = X.env :: X.outer ∧ X.env.frame = some X.env.locals)
  exf : ∀ b ∈ X.ex, b ≠ X.env.locals ∧ ∀ x c, X.env.cells.lookup x = some c → c ≠ b
  bs : ∀ b o, X.base.get? b = some o → X.s₀.heap.get? b = some o ∧ X.H₀ b = none
  bsz : X.base.objs.size ≤ X.s₀.heap.objs.size
  noex : ∀ b o, X.base.get? b = some o → b ∉ X.ex
  exfs : ∀ b ∈ X.ex, b ∉ X.fs
  funs : X.s₀.heap.FunFrames X.base X.outer
  frf : ∀ b ∈ X.fs, X.H₀ b = none
structure Inv (X : Cx) (pins : List (Addr × Obj)) (σ : List (Option V)) (H : Hp) (s : Shared) : Prop where
  ok : X.Ok
  os : s.os = X.s₀.os
  bare : AllBare s.gens
  base : Un X.fs X.ex X.H₀ H X.s₀.heap s.heap
  loc : ∃ m, s.heap.Ns X.env.locals m ∧ ∀ (i : Nat) (x : Str) (v : V), X.N[i]? = some x → σ[i]? = some (some v) → Vis X.env.scope x → ∃ u, RelV v u ∧ Look X.env s.heap m x u
  cell : ∀ x c, X.env.cells.lookup x = some c → ∃ v, s.heap.IsCell c v
  free : H X.env.locals = none
  freeC : ∀ x c, X.env.cells.lookup x = some c → H c = none
  pin : ∀ p ∈ X.pn ++ pins, s.heap.get? p.1 = some p.2 ∧ H p.1 = none ∧ p.1 ≠ X.env.locals ∧ p.1 ∉ X.fs ∧ ∀ v, p.2.data ≠ .cell v
  hok : HOk X.prog X.w X.K H s.heap
  len : σ.length = X.N.length
section
variable {X : Cx} {pins : List (Addr × Obj)} {σ : List (Option V)} {H H' : Hp} {s : Shared} {h' : Heap}
theorem Cx.Ok.nofr (ok : X.Ok) {b : Addr} {o : Obj} (e : X.base.get? b = some o) : b ∉ X.fs := fun hb => by
  have := (ok.funs.mem hb).1
  rw [e] at this; cases this
theorem Inv.bs (I : Inv X pins σ H s) : ∀ b o, X.base.get? b = some o → s.heap.get? b = some o ∧ H b = none := fun b o e =>
  ⟨I.base.keep b o (I.ok.bs b o e).1 (I.ok.bs b o e).2 (I.ok.nofr e) (I.ok.noex b o e), I.base.free b o (I.ok.bs b o e).1 (I.ok.bs b o e).2 (I.ok.noex b o e)⟩
theorem Inv.bk (I : Inv X pins σ H s) : ∀ b o, X.base.get? b = some o → s.heap.get? b = some o := fun b o e => (I.bs b o e).1
theorem Inv.mod (I : Inv X pins σ H s) : Mod X.K X.mg X.base := I.ok.mod
theorem Inv.kIn (I : Inv X pins σ H s) : X.K.In s.heap := I.ok.mod.kin.keeps I.bk
theorem Inv.lt (I : Inv X pins σ H s) : X.env.locals < s.heap.objs.size := let ⟨_, hn, _⟩ := I.loc; hn.lt
theorem Inv.sz (I : Inv X pins σ H s) : X.s₀.heap.objs.size ≤ s.heap.objs.size := Nat.le_trans I.ok.above (Nat.le_of_lt I.lt)
theorem Inv.nofs (I : Inv X pins σ H s) {a : Addr} (h : s.heap.objs.size ≤ a) : a ∉ X.fs := fun hb => by
  obtain ⟨_, o, ho, _⟩ := I.ok.funs.mem hb
  exact absurd (Nat.lt_of_lt_of_le (Heap.lt_size ho) (Nat.le_trans I.sz h)) (Nat.lt_irrefl _)
theorem Inv.cne (I : Inv X pins σ H s) : ∀ x c, X.env.cells.lookup x = some c → c ≠ X.env.locals := fun x c e z => by
  obtain ⟨v, o, ho, hd⟩ := I.cell x c e
  obtain ⟨m, ⟨o', es, ep, ho', hd', _⟩, _⟩ := I.loc
  rw [z, ho'] at ho; cases ho; rw [hd'] at hd; cases hd
theorem Inv.funs (I : Inv X pins σ H s) : s.heap.FunFrames X.base X.outer := by
  have all : ∀ (l : List Env), (∀ b ∈ frs l, b ∈ X.fs) → X.s₀.heap.FunFrames X.base l → s.heap.FunFrames X.base l := by
    intro l
    induction l with
    | nil => intro _ _; trivial
    | cons env r ih =>
      intro hs hl
      obtain ⟨hk, ⟨L, o, hf, hn, ho, hd⟩, hr⟩ := hl
      have hL : L ∈ X.fs := hs L (by unfold frs; rw [List.filterMap_cons, hf]; exact List.mem_cons_self)
      obtain ⟨sl, e⟩ := I.base.slot L o ho (I.ok.frf L hL) hL fun z => I.ok.exfs L z hL
      exact ⟨hk, ⟨L, _, hf, hn, e, hd⟩, ih (fun b hb => hs b (by unfold frs; rw [List.filterMap_cons, hf]; exact List.mem_cons_of_mem _ hb)) hr⟩
  exact all X.outer (fun _ hb => hb) I.ok.funs
theorem Inv.stack (I : Inv X pins σ H s) : s.heap.FunFrames X.base X.stack := by
  rcases I.ok.stk with e | ⟨e, hf⟩
  · rw [e]; exact I.funs
  · rw [e]
    obtain ⟨m, hn, _⟩ := I.loc
    refine .cons (by rw [I.ok.kind]; decide) hf hn ?_ I.funs
    exact Heap.get?_none_of_le (Nat.le_trans I.ok.bsz I.ok.above)
theorem Inv.stkSub (I : Inv X pins σ H s) : ∀ b ∈ frs X.stack, b ∈ X.env.locals :: X.fs := fun b hb => by
  rcases I.ok.stk with e | ⟨e, hf⟩
  · rw [e] at hb; exact List.mem_cons_of_mem _ hb
  · rw [e] at hb
    unfold frs at hb
    rw [List.filterMap_cons, hf] at hb
    exact hb
theorem Inv.stkFree (I : Inv X pins σ H s) : ∀ b ∈ frs X.stack, H b = none := fun b hb => by
  rcases List.mem_cons.mp (I.stkSub b hb) with e | hb
  · rw [e]; exact I.free
  · obtain ⟨_, o, ho, _⟩ := I.ok.funs.mem hb
    exact I.base.free b o ho (I.ok.frf b hb) fun z => I.ok.exfs b z hb
theorem Inv.step {g' : Array GenState} {t' : Nat} {d' : Drawn} {ch : List Addr} (I : Inv X pins σ H s)
    (hch : ∀ b ∈ ch, (b ∈ X.ex ∨ X.s₀.heap.objs.size ≤ b) ∧ b ≠ X.env.locals ∧ (∀ x c, X.env.cells.lookup x = some c → c ≠ b) ∧ ∀ p ∈ X.pn ++ pins, p.1 ≠ b)
    (keep : ∀ b o, b ≠ X.env.locals → b ∉ X.fs → b ∉ ch → s.heap.get? b = some o → H b = none → h'.get? b = some o)
    (slot : ∀ b o, b ≠ X.env.locals → b ∈ X.fs → b ∉ ch → s.heap.get? b = some o → H b = none → ∃ sl, h'.get? b = some { o with slots := sl }) (free : ∀ b o, b ∉ ch → s.heap.get? b = some o → H b = none → H' b = none)
    (there : ∀ b o, b ∉ ch → s.heap.get? b = some o → ∃ o', h'.get? b = some o')
    (tups : ∀ b xs, H b = some (.tup xs) → H' b = some (.tup xs)) (frzs : ∀ b o u, H b = some (.frz o u) → H' b = some (.frz o u)) (tbls : ∀ b ps, H b = some (.tbl ps) → ∃ more, H' b = some (.tbl (ps ++ more)))
    (ns : ∀ m, s.heap.Ns X.env.locals m → h'.Ns X.env.locals m) (hok : HOk X.prog X.w X.K H' h') (hg : AllBare g') :
    Inv X pins σ H' { s with heap := h', gens := g', drawn := d', toks := t' } := by
  have neL : ∀ b o, X.s₀.heap.get? b = some o → b ≠ X.env.locals := fun b o e => Nat.ne_of_lt (Nat.lt_of_lt_of_le (Heap.lt_size e) I.ok.above)
  have neC : ∀ b o, X.s₀.heap.get? b = some o → b ∉ X.ex → b ∉ ch := fun b o e hx hb => by
    rcases (hch b hb).1 with z | z
    · exact hx z
    · exact absurd (Nat.lt_of_lt_of_le (Heap.lt_size e) z) (Nat.lt_irrefl _)
  have cellK : ∀ x c, X.env.cells.lookup x = some c → ∀ v, s.heap.IsCell c v → h'.IsCell c v := fun x c e v ⟨o, ho, hd⟩ => by
    have nch : c ∉ ch := fun z => (hch c z).2.2.1 x c e rfl
    by_cases hc : c ∈ X.fs
    · obtain ⟨sl, q⟩ := slot c o (I.cne x c e) hc nch ho (I.freeC x c e)
      exact ⟨_, q, hd⟩
    · exact ⟨o, keep c o (I.cne x c e) hc nch ho (I.freeC x c e), hd⟩
  refine ⟨I.ok, I.os, hg, ⟨fun b o e n hb hx => ?_, fun b o e n hb hx => ?_, fun b o e n hx => ?_, fun b o e hx => ?_, fun b xs e => tups b xs (I.base.tups b xs e), fun b o xs e => frzs b o xs (I.base.frzs b o xs e), fun b ps e => ?_⟩, ?_, fun x c e => ?_, ?_, fun x c e => ?_, fun p hp => ?_, hok, I.len⟩
  · exact keep b o (neL b o e) hb (neC b o e hx) (I.base.keep b o e n hb hx) (I.base.free b o e n hx)
  · obtain ⟨sl, e1⟩ := I.base.slot b o e n hb hx
    obtain ⟨sl', e2⟩ := slot b _ (neL b o e) hb (neC b o e hx) e1 (I.base.free b o e n hx)
    exact ⟨sl', e2⟩
  · obtain ⟨o', e1⟩ := I.base.there b o e hx
    exact free b o' (neC b o e hx) e1 (I.base.free b o e n hx)
  · obtain ⟨o', e1⟩ := I.base.there b o e hx
    exact there b o' (neC b o e hx) e1
  · obtain ⟨m1, e1⟩ := I.base.tbls b ps e
    obtain ⟨m2, e2⟩ := tbls b _ e1
    exact ⟨m1 ++ m2, by rw [e2, Array.append_assoc]⟩
  · obtain ⟨m, hn, hl⟩ := I.loc
    refine ⟨m, ns m hn, fun i x v e1 e2 e3 => ?_⟩
    obtain ⟨u, r, l⟩ := hl i x v e1 e2 e3
    refine ⟨u, r, ?_⟩
    rcases l with l | ⟨k, c, e, z⟩
    · exact .inl l
    · exact .inr ⟨k, c, e, cellK x c e _ z⟩
  · obtain ⟨v, z⟩ := I.cell x c e
    exact ⟨v, cellK x c e v z⟩
  · obtain ⟨m, ⟨o, _, _, ho, _⟩, _⟩ := I.loc
    exact free _ o (fun z => (hch _ z).2.1 rfl) ho I.free
  · obtain ⟨v, o, ho, hd⟩ := I.cell x c e
    exact free c o (fun z => (hch c z).2.2.1 x c e rfl) ho (I.freeC x c e)
  · obtain ⟨e, n, ne, nf, d⟩ := I.pin p hp
    have nch : p.1 ∉ ch := fun z => (hch p.1 z).2.2.2 p hp rfl
    exact ⟨keep p.1 p.2 ne nf nch e n, free p.1 p.2 nch e n, ne, nf, d⟩
theorem Inv.un {t' : Nat} (I : Inv X pins σ H s) (u : Un X.fs [] H H' s.heap h') (hok : HOk X.prog X.w X.K H' h') : Inv X pins σ H' { s with heap := h', toks := t' } := by
  obtain ⟨m, ⟨o, es, ep, ho, r⟩, _⟩ := id I.loc
  obtain ⟨sl, hL⟩ := u.any ho I.free (by simp)
  exact I.step (g' := s.gens) (d' := s.drawn) (ch := []) (fun _ z => nomatch z) (fun b o _ hb _ e n => u.keep b o e n hb (by simp)) (fun b o _ hb _ e n => u.slot b o e n hb (by simp)) (fun b o _ e n => u.free b o e n (by simp)) (fun b o _ e => u.there b o e (by simp)) u.tups u.frzs u.tbls (fun m' hm => by
    obtain ⟨o', es', ep', ho', r'⟩ := hm
    rw [ho] at ho'; cases ho'
    exact ⟨_, es', ep', hL, r'⟩) hok I.bare
theorem Inv.call {g' : Array GenState} {t' : Nat} {d' : Drawn} {ch : List Addr} (I : Inv X pins σ H s) (u : Un (frs X.stack) ch H H' s.heap h') (hok : HOk X.prog X.w X.K H' h') (hg : AllBare g')
    (hch : ∀ b ∈ ch, (b ∈ X.ex ∨ X.s₀.heap.objs.size ≤ b) ∧ b ≠ X.env.locals ∧ (∀ x c, X.env.cells.lookup x = some c → c ≠ b) ∧ ∀ p ∈ X.pn ++ pins, p.1 ≠ b) :
    Inv X pins σ H' { s with heap := h', gens := g', drawn := d', toks := t' } := by
  obtain ⟨m, ⟨o, es, ep, ho, r⟩, _⟩ := id I.loc
  obtain ⟨sl, hL⟩ := u.any ho I.free fun z => (hch _ z).2.1 rfl
  exact I.step (ch := ch) hch (fun b o hL hb hc e n => u.keep b o e n (fun z => (List.mem_cons.mp (I.stkSub b z)).elim hL hb) hc) (fun b o _ _ hc e n => u.any e n hc) (fun b o hc e n => u.free b o e n hc) (fun b o hc e => u.there b o e hc) u.tups u.frzs u.tbls (fun m' hm => by
    obtain ⟨o', es', ep', ho', r'⟩ := hm
    rw [ho] at ho'; cases ho'
    exact ⟨_, es', ep', hL, r'⟩) hok hg
theorem Inv.turned {t' : Nat} {it : Addr} (I : Inv X pins σ H s) (k : ∀ b o, b ≠ it → s.heap.get? b = some o → h'.get? b = some o) (hn : H it = none) (hL : it ≠ X.env.locals)
    (h1 : it ∈ X.ex ∨ X.s₀.heap.objs.size ≤ it) (h2 : ∀ x c, X.env.cells.lookup x = some c → c ≠ it) (h3 : ∀ p ∈ X.pn ++ pins, p.1 ≠ it) : Inv X pins σ H { s with heap := h', toks := t' } := by
  have nit : ∀ b u, H b = some u → b ≠ it := fun b u e z => by rw [z, hn] at e; cases e
  refine I.step (g' := s.gens) (d' := s.drawn) (ch := [it]) (fun b hb => ?_) (fun b o _ _ hc e _ => k b o (fun z => hc (by simp [z])) e) (fun b o _ _ hc e _ => ⟨o.slots, k b o (fun z => hc (by simp [z])) e⟩) (fun _ _ _ _ n => n)
    (fun b o hc e => ⟨o, k b o (fun z => hc (by simp [z])) e⟩) (fun _ _ e => e) (fun _ _ _ e => e) (fun b ps e => ⟨#[], by rw [e]; simp⟩) (fun m hm => ?_) (fun b u e => ?_) I.bare
  · have e : b = it := by simpa using hb
    subst e
    exact ⟨h1, hL, h2, h3⟩
  · obtain ⟨o, es, ep, ho, r⟩ := hm
    exact ⟨o, es, ep, k _ o (Ne.symm hL) ho, r⟩
  · refine (I.hok b u e).stay (fun c v hc q => k c v ?_ q) (fun _ q => q) fun _ _ q => q
    rcases hc with z | z
    · rw [z]; exact nit b u e
    · exact nit c _ z
theorem Inv.tok (I : Inv X pins σ H s) (t : Nat) : Inv X pins σ H { s with toks := t } := I.un (h' := s.heap) (t' := t) Un.refl I.hok
theorem Inv.kept {t' : Nat} (I : Inv X pins σ H s) (k : ∀ b u, s.heap.get? b = some u → h'.get? b = some u) : Inv X pins σ H { s with heap := h', toks := t' } := I.un (Un.kept k) (I.hok.kept k)
theorem Inv.laid {a : Addr} {o : HO} {t' : Nat} (I : Inv X pins σ H s) (k : ∀ b u, s.heap.get? b = some u → h'.get? b = some u) (hp : s.heap.objs.size ≤ a) (new : ObjOk X.prog X.w X.K (upd H a o) h' a o) :
    Inv X pins σ (upd H a o) { s with heap := h', toks := t' } := I.un (Un.laid k hp (I.hok.fresh hp)) (I.hok.laid k hp new)
theorem Inv.write {x e : Addr} {o : HO} {t' : Nat} (I : Inv X pins σ H s) (mu : Mut (H x)) (he : e = x ∨ H e = some (.own x)) (k : ∀ b u, b ≠ e → s.heap.get? b = some u → h'.get? b = some u) (heo : ∃ u, h'.get? e = some u)
    (new : ObjOk X.prog X.w X.K (upd H x o) h' x o) : Inv X pins σ (upd H x o) { s with heap := h', toks := t' } := I.un (Un.write mu he k heo) (I.hok.write mu he k heo new)
theorem Inv.pins_of {pins' : List (Addr × Obj)} (I : Inv X pins σ H s) (h : ∀ p ∈ pins', s.heap.get? p.1 = some p.2 ∧ H p.1 = none ∧ p.1 ≠ X.env.locals ∧ p.1 ∉ X.fs ∧ ∀ v, p.2.data ≠ .cell v) : Inv X pins' σ H s :=
  ⟨I.ok, I.os, I.bare, I.base, I.loc, I.cell, I.free, I.freeC, fun p hp => (List.mem_append.mp hp).elim (fun z => I.pin p (List.mem_append_left _ z)) (h p), I.hok, I.len⟩
theorem nodup_ix {N : List Str} (hN : N.Nodup) {i j : Nat} {x : Str} (a : N[i]? = some x) (b : N[j]? = some x) : i = j := by
  obtain ⟨h1, e1⟩ := List.getElem?_eq_some_iff.mp a
  obtain ⟨h2, e2⟩ := List.getElem?_eq_some_iff.mp b
  exact (List.getElem_inj hN).mp (e1.trans e2.symm)
theorem store_ok2 {M : Model} {A : Around} {E : Value → Shared → Prop} {i : Nat} {x : Str} {v : V} {u : Value} {Q : Unit → Shared → Prop} (I : Inv X pins σ H s) (hN : X.N.Nodup) (hi : X.N[i]? = some x) (hx : Loc X.env.scope x) (r : RelV v u)
    (h : ∀ s', Inv X pins (σ.set i (some v)) H s' → (∃ a, Heap.SameBut a s.heap s'.heap ∧ (a = X.env.locals ∨ X.env.cells.lookup x = some a)) → Q () s') (hf : X.fn x = true ∨ X.env.scope.names.lookup x = some .local := by first | exact .inl rfl | exact .inr rfl | assumption) : wpAny M A (storeName X.env x u) Q E s := by
  obtain ⟨m, hn, hl⟩ := id I.loc
  have hcls : (X.env.scope.kind == .class || (X.env.scope.kind == .module && X.env.locals != X.env.globals)) = false := by rw [I.ok.kind]; rfl
  have hiσ : i < σ.length := by rw [I.len]; exact (List.getElem?_eq_some_iff.mp hi).1
  have cne := I.cne
  have tracked : ∀ {a : Addr} {h' : Heap}, (∃ o, s.heap.get? a = some o ∧ H a = none) → Heap.SameBut a s.heap h' → HOk X.prog X.w X.K H h' := fun {a h'} ha hs b ob e => by
    obtain ⟨_, _, hfree⟩ := ha
    refine (I.hok b ob e).stay (fun c w' hc q => (hs.2 c ?_).trans q) (fun _ q => q) fun _ _ q => q
    rintro rfl
    rcases hc with rfl | hc
    · rw [hfree] at e; cases e
    · rw [hfree] at hc; cases hc
  rcases hx with hk | hk
  · refine wpAny_storeName_local hk hn (fun h' hn' hs => ?_) hcls
    obtain ⟨oL, _, _, hoL, _⟩ := id hn
    refine h _ ⟨I.ok, I.os, I.bare, ⟨fun b o e n hb hx => ?_, fun b o e n hb hx => ?_, I.base.free, fun b o e hx => ?_, I.base.tups, I.base.frzs, I.base.tbls⟩, ⟨_, hn', fun j y v' e1 e2 e3 => ?_⟩, fun y c e => ?_, I.free, I.freeC, fun p hp => ?_, tracked ⟨oL, hoL, I.free⟩ hs, by simpa using I.len⟩ ⟨_, hs, .inl rfl⟩
    · exact (hs.2 b (Nat.ne_of_lt (Nat.lt_of_lt_of_le (Heap.lt_size e) I.ok.above))).trans (I.base.keep b o e n hb hx)
    · obtain ⟨sl, e1⟩ := I.base.slot b o e n hb hx
      exact ⟨sl, (hs.2 b (Nat.ne_of_lt (Nat.lt_of_lt_of_le (Heap.lt_size e) I.ok.above))).trans e1⟩
    · obtain ⟨o', e1⟩ := I.base.there b o e hx
      exact ⟨o', (hs.2 b (Nat.ne_of_lt (Nat.lt_of_lt_of_le (Heap.lt_size e) I.ok.above))).trans e1⟩
    · by_cases hj : j = i
      · subst hj
        rw [hi] at e1; cases e1
        rw [List.getElem?_set_self hiσ] at e2
        cases e2
        exact ⟨u, r, .inl ⟨hk, by simp⟩⟩
      · rw [List.getElem?_set_ne (Ne.symm hj)] at e2
        obtain ⟨u', r', q⟩ := hl j y v' e1 e2 e3
        refine ⟨u', r', ?_⟩
        rcases q with ⟨k, e⟩ | ⟨k, c, e, z⟩
        · refine .inl ⟨k, ?_⟩
          have : y ≠ x := fun e => hj (nodup_ix hN e1 (e ▸ hi))
          simp [this, e]
        · exact .inr ⟨k, c, e, z.sameBut hs (cne y c e)⟩
    · obtain ⟨w', z⟩ := I.cell y c e
      exact ⟨w', z.sameBut hs (cne y c e)⟩
    · obtain ⟨e, n, ne, nf, d⟩ := I.pin p hp
      exact ⟨(hs.2 p.1 ne).trans e, n, ne, nf, d⟩
  · have hfn : X.fn x = true := by
      rcases hf with z | z
      · exact z
      · rw [z] at hk; cases hk
    obtain ⟨c, hc⟩ := I.ok.has x (.inl hk)
    obtain ⟨w', z⟩ := I.cell x c hc
    refine wpAny_storeName_cell I.ok.kind hk hc z (fun h' hc' hs => ?_)
    obtain ⟨oc, hoc, hocd⟩ := id z
    refine h { s with heap := h' } ⟨I.ok, I.os, I.bare, ⟨fun b o e n hb hx => ?_, fun b o e n hb hx => ?_, I.base.free, fun b o e hx => ?_, I.base.tups, I.base.frzs, I.base.tbls⟩, ⟨m, hn.sameBut hs (Ne.symm (cne x c hc)), fun j y v' e1 e2 e3 => ?_⟩, fun y c' e => ?_, I.free, I.freeC, fun p hp => ?_, tracked ⟨oc, hoc, I.freeC x c hc⟩ hs, by simpa using I.len⟩ ⟨c, hs, .inr hc⟩
    · exact (hs.2 b (Nat.ne_of_lt (Nat.lt_of_lt_of_le (Heap.lt_size e) (I.ok.cab x c hfn hc)))).trans (I.base.keep b o e n hb hx)
    · obtain ⟨sl, e1⟩ := I.base.slot b o e n hb hx
      exact ⟨sl, (hs.2 b (Nat.ne_of_lt (Nat.lt_of_lt_of_le (Heap.lt_size e) (I.ok.cab x c hfn hc)))).trans e1⟩
    · obtain ⟨o', e1⟩ := I.base.there b o e hx
      exact ⟨o', (hs.2 b (Nat.ne_of_lt (Nat.lt_of_lt_of_le (Heap.lt_size e) (I.ok.cab x c hfn hc)))).trans e1⟩
    · by_cases hj : j = i
      · subst hj
        rw [hi] at e1; cases e1
        rw [List.getElem?_set_self hiσ] at e2
        cases e2
        exact ⟨u, r, .inr ⟨.inl hk, c, hc, hc'⟩⟩
      · rw [List.getElem?_set_ne (Ne.symm hj)] at e2
        obtain ⟨u', r', q⟩ := hl j y v' e1 e2 e3
        refine ⟨u', r', ?_⟩
        rcases q with q | ⟨k, c', e, z'⟩
        · exact .inl q
        · refine .inr ⟨k, c', e, z'.sameBut hs ?_⟩
          rintro rfl
          exact hj (nodup_ix hN e1 (I.ok.inj _ _ _ e hc ▸ hi))
    · by_cases hcc : c' = c
      · subst hcc; exact ⟨_, hc'⟩
      · obtain ⟨w2, z2⟩ := I.cell y c' e
        exact ⟨w2, z2.sameBut hs hcc⟩
    · obtain ⟨e, n, ne, nf, d⟩ := I.pin p hp
      refine ⟨(hs.2 p.1 ?_).trans e, n, ne, nf, d⟩
      intro q
      rw [q, hoc] at e
      have q' : oc = p.2 := Option.some.inj e
      exact d w' (by rw [← q']; exact hocd)
theorem store_ok {M : Model} {A : Around} {E : Value → Shared → Prop} {i : Nat} {x : Str} {v : V} {u : Value} {Q : Unit → Shared → Prop} (I : Inv X pins σ H s) (hN : X.N.Nodup) (hi : X.N[i]? = some x) (hx : Loc X.env.scope x) (r : RelV v u)
    (h : ∀ s', Inv X pins (σ.set i (some v)) H s' → Q () s') (hf : X.fn x = true ∨ X.env.scope.names.lookup x = some .local := by first | exact .inl rfl | exact .inr rfl | assumption) : wpAny M A (storeName X.env x u) Q E s :=
  store_ok2 I hN hi hx r (fun s' I' _ => h s' I') hf
theorem Inv.call' {s' : Shared} {ch : List Addr} (I : Inv X pins σ H s) (ho : s'.os = s.os) (u : Un (frs X.stack) ch H H' s.heap s'.heap) (hok : HOk X.prog X.w X.K H' s'.heap) (hg : AllBare s'.gens)
    (hch : ∀ b ∈ ch, (b ∈ X.ex ∨ X.s₀.heap.objs.size ≤ b) ∧ b ≠ X.env.locals ∧ (∀ x c, X.env.cells.lookup x = some c → c ≠ b) ∧ ∀ p ∈ X.pn ++ pins, p.1 ≠ b) : Inv X pins σ H' s' := by
  obtain ⟨h', g', d', t', o'⟩ := s'
  have e : o' = s.os := ho
  subst e
  exact I.call (g' := g') (t' := t') (d' := d') u hok hg hch
end
abbrev XK := Value → Option Addr → Hp → Prop
abbrev St := List (Option V)
abbrev VK := V → Hp → Prop
abbrev TE := St → Hp → VK → Prop
abbrev TT := St → Hp → (Bool → Hp → Prop) → Prop
abbrev TA := St → Hp → (List V → Hp → Prop) → Prop
structure Ends where
  nx : St → Hp → Prop
  rt : VK
  bk : St → Hp → Prop := fun _ _ => False
  ct : St → Hp → Prop := fun _ _ => False
abbrev TS := Ends → St → Hp → Prop
def EP (X : Cx) (pins : List (Addr × Obj)) (σ : St) (Q : VK) (u : Value) (s' : Shared) : Prop := ∃ v H', Inv X pins σ H' s' ∧ RelV v u ∧ Q v H'
def TP (X : Cx) (pins : List (Addr × Obj)) (σ : St) (Q : Bool → Hp → Prop) (b : Bool) (s' : Shared) : Prop := ∃ H', Inv X pins σ H' s' ∧ Q b H'
def AP (X : Cx) (pins : List (Addr × Obj)) (σ : St) (Q : List V → Hp → Prop) (us : List Value) (s' : Shared) : Prop := ∃ vs H', Inv X pins σ H' s' ∧ Vals vs us ∧ Q vs H'
def SP (X : Cx) (pins : List (Addr × Obj)) (D : Ends) (f : Flow) (s' : Shared) : Prop :=
  match f with
  | .next => ∃ σ' H', Inv X pins σ' H' s' ∧ D.nx σ' H'
  | .brk => ∃ σ' H', Inv X pins σ' H' s' ∧ D.bk σ' H'
  | .cont => ∃ σ' H', Inv X pins σ' H' s' ∧ D.ct σ' H'
  | .ret u => ∃ v σ' H', Inv X pins σ' H' s' ∧ RelV v u ∧ D.rt v H'
def PE (X : Cx) (e : Expr) (t : TE) : Prop :=
  ∀ (pins : List (Addr × Obj)) (s : Shared) (σ : St) (H : Hp) (Q : VK), Inv X pins σ H s → t σ H Q → wpAny (model X.prog X.w) X.A (eval e X.env) (EP X pins σ Q) X.xe s
def PT (X : Cx) (e : Expr) (t : TT) : Prop :=
  ∀ (pins : List (Addr × Obj)) (s : Shared) (σ : St) (H : Hp) (Q : Bool → Hp → Prop), Inv X pins σ H s → t σ H Q → wpAny (model X.prog X.w) X.A (isTrue e X.env (eval e X.env)) (TP X pins σ Q) X.xe s
def PW (X : Cx) (e : Expr) (t : TT) : Prop :=
  ∀ (whole : Sem Value) (pins : List (Addr × Obj)) (s : Shared) (σ : St) (H : Hp) (Q : Bool → Hp → Prop), Inv X pins σ H s → t σ H Q → wpAny (model X.prog X.w) X.A (isTrue e X.env whole) (TP X pins σ Q) X.xe s
theorem PW.pt {X : Cx} {e : Expr} {t : TT} (h : PW X e t) : PT X e t := h _
def PA (X : Cx) (es : List Expr) (t : TA) : Prop :=
  ∀ (pos : Pos) (pins : List (Addr × Obj)) (s : Shared) (σ : St) (H : Hp) (Q : List V → Hp → Prop), Inv X pins σ H s → t σ H Q → wpAny (model X.prog X.w) X.A (spliced (backTo pos (starEach es X.env))) (AP X pins σ Q) X.xe s
def PS (X : Cx) (st : Stmt) (t : TS) : Prop :=
  ∀ (pins : List (Addr × Obj)) (s : Shared) (σ : St) (H : Hp) (D : Ends), Inv X pins σ H s → t D σ H → wpAny (model X.prog X.w) X.A (exec st X.env) (SP X pins D) X.xe s
def PSs (X : Cx) (st : List Stmt) (t : TS) : Prop :=
  ∀ (pins : List (Addr × Obj)) (s : Shared) (σ : St) (H : Hp) (D : Ends), Inv X pins σ H s → t D σ H → wpAny (model X.prog X.w) X.A (execs st X.env) (SP X pins D) X.xe s
theorem thn {α : Type} {t : Sem α} {Q Q' : α → Shared → Prop} {M : Model} {A : Around} {E : Value → Shared → Prop} {s : Shared} (h : wpAny M A t Q E s) (hQ : ∀ a s, Q a s → Q' a s) : wpAny M A t Q' E s := wpAny_mono h hQ fun _ _ x => x
end L2
namespace L2
open PySem PySem.Spec PyProof.Rows
section
variable {X : Cx}
def tVar (i : Nat) : TE := fun σ H Q => ∃ v, σ[i]? = some (some v) ∧ Q v H
def tC (v : V) : TE := fun _ H Q => Q v H
theorem pe_var {i : Nat} {x : Str} {pos : Pos} (hN : X.N[i]? = some x) (hv : Vis X.env.scope x) (hd : (x == ("__debug__" : Str)) = false := by decide) (hcd : (x == ("__classdict__" : Str)) = false := by decide) : PE X (.Name x pos) (tVar i) := by
  intro pins s σ H Q I h
  obtain ⟨v, e, h⟩ := h
  obtain ⟨m, hn, hl⟩ := I.loc
  obtain ⟨u, r, l⟩ := hl i x v hN e hv
  have fin : EP X pins σ Q u s := ⟨v, H, I, r, h⟩
  rcases l with ⟨hk, hm⟩ | ⟨hk, c, hc, hcell⟩
  · exact wpAny_Name (wpAny_loadName_local I.ok.kind hk hn hm fin) hd
  · rcases hk with hk | hk
    · exact wpAny_Name (wpAny_loadName_cell I.ok.kind hk hc hcell fin) hd
    · exact wpAny_Name (wpAny_loadName_free I.ok.kind hk hc hcell fin hcd) hd
theorem pe_int {i j pos} : PE X (.Constant (.int i) j pos) (tC (.int i)) := fun _ _ _ H _ I h => wpAny_Constant_int ⟨.int i, H, I.tok _, ⟨_, rfl⟩, h⟩
theorem pe_bl {b j pos} : PE X (.Constant (.bool b) j pos) (tC (.bl b)) := fun _ _ _ H _ I h => Constant_bool ⟨.bl b, H, I, rfl, h⟩
theorem pe_non {j pos} : PE X (.Constant .none j pos) (tC .non) := fun _ _ _ H _ I h => Constant_none ⟨.non, H, I, rfl, h⟩
theorem pe_str {x j pos} : PE X (.Constant (.str x) j pos) (tC (.str x)) := fun _ _ _ H _ I h => Calls.Constant_str ⟨.str x, H, I.tok _, ⟨_, rfl⟩, h⟩
def Gl (X : Cx) (x : Str) : Prop := X.env.kindOf x = some .globalImplicit
theorem ld_glob {E : Value → Shared → Prop} {pins : List (Addr × Obj)} {s : Shared} {σ : St} {H : Hp} {x : Str} {u : Value} {pos : Pos} {Q : Value → Shared → Prop} (I : Inv X pins σ H s) (hg : Gl X x) (hm : X.mg x = some u) (h : Q u s)
    (hd : (x == ("__debug__" : Str)) = false := by decide) : wpAny (model X.prog X.w) X.A (eval (.Name x pos) X.env) Q E s :=
  Calls.Name_function_global I.ok.kind hg (Calls.loadGlobal_global (by rw [I.ok.glob]; exact I.mod.glob.keeps I.bk) hm h) hd
theorem ld_blt {E : Value → Shared → Prop} {pins : List (Addr × Obj)} {s : Shared} {σ : St} {H : Hp} {x : Str} {u : Value} {pos : Pos} {Q : Value → Shared → Prop} (I : Inv X pins σ H s) (hg : Gl X x) (hm : X.mg x = none) (hv : bootBuiltins x = some u) (h : Q u s)
    (hn : x ≠ "__name__" := by decide) (hd : (x == ("__debug__" : Str)) = false := by decide) : wpAny (model X.prog X.w) X.A (eval (.Name x pos) X.env) Q E s := by
  obtain ⟨mb, h1, h2⟩ := I.mod.blt
  exact Calls.Name_function_global I.ok.kind hg (Calls.loadGlobal_builtin (by rw [I.ok.glob]; exact I.mod.glob.keeps I.bk) hm (by rw [I.ok.blt]; exact h1.keeps I.bk) ((h2 x hn).trans hv) h) hd
theorem pe_glob {x : Str} {v : V} {u : Value} {pos : Pos} (hg : Gl X x) (hm : X.mg x = some u) (r : RelV v u) (hd : (x == ("__debug__" : Str)) = false := by decide) : PE X (.Name x pos) (tC v) :=
  fun _ _ _ H _ I h => ld_glob I hg hm ⟨v, H, I, r, h⟩ hd
theorem pe_bltn {x : Str} {v : V} {u : Value} {pos : Pos} (hg : Gl X x) (hm : X.mg x = none) (hv : bootBuiltins x = some u) (r : RelV v u) (hn : x ≠ "__name__" := by decide) (hd : (x == ("__debug__" : Str)) = false := by decide) : PE X (.Name x pos) (tC v) :=
  fun _ _ _ H _ I h => ld_blt I hg hm hv ⟨v, H, I, r, h⟩ hn hd
variable {a b : Expr} {ta tb : TE} {pos : Pos}
def tB (t : TE) : TT := fun σ H Q => t σ H fun x H1 => ∃ c, x = .bl c ∧ Q c H1
theorem pt_val {e : Expr} {t : TE} (h : PE X e t) (he : ∀ whole, isTrue e X.env whole = (do let v ← whole; standAt e.pos; holding [v] (truthy v)) := by intro _; rfl) : PT X e (tB t) := by
  intro pins s σ H Q I hw
  refine isTrue_plain (thn (h pins s σ H _ I hw) fun v s1 ⟨x, H1, I1, r1, q1⟩ => ?_) (he _)
  obtain ⟨d, rfl, q⟩ := q1
  cases r1
  exact wpAny_truthy_bool ⟨H1, I1, q⟩
variable {tA tB' : TT} {rest : List Expr}
def tAnd (t u : TT) : TT := fun σ H Q => t σ H fun c H1 => if c = true then u σ H1 Q else Q false H1
def tOr (t u : TT) : TT := fun σ H Q => t σ H fun c H1 => if c = true then Q true H1 else u σ H1 Q
def tNot (t : TT) : TT := fun σ H Q => t σ H fun c H1 => Q (!c) H1
theorem pw_and1 (ha : PT X a tA) : PW X (.BoolOp .And [a] pos) tA := by
  intro wh pins s σ H Q I h
  refine isTrue_and (thn (ha pins s σ H Q I h) fun c s1 e => ?_)
  cases c with
  | true => exact isTrue_and_nil e
  | false => exact e
theorem pw_or1 (ha : PT X a tA) : PW X (.BoolOp .Or [a] pos) tA := by
  intro wh pins s σ H Q I h
  refine isTrue_or (thn (ha pins s σ H Q I h) fun c s1 e => ?_)
  cases c with
  | false => exact isTrue_or_nil e
  | true => exact e
theorem pw_and (ha : PT X a tA) (hb : PW X (.BoolOp .And (b :: rest) pos) tB') : PW X (.BoolOp .And (a :: b :: rest) pos) (tAnd tA tB') := by
  intro wh pins s σ H Q I h
  refine isTrue_and (thn (ha pins s σ H _ I h) fun c s1 ⟨H1, I1, q1⟩ => ?_)
  cases c with
  | true => exact hb wh pins s1 σ H1 Q I1 q1
  | false => exact ⟨H1, I1, q1⟩
theorem pw_or (ha : PT X a tA) (hb : PW X (.BoolOp .Or (b :: rest) pos) tB') : PW X (.BoolOp .Or (a :: b :: rest) pos) (tOr tA tB') := by
  intro wh pins s σ H Q I h
  refine isTrue_or (thn (ha pins s σ H _ I h) fun c s1 ⟨H1, I1, q1⟩ => ?_)
  cases c with
  | true => exact ⟨H1, I1, q1⟩
  | false => exact hb wh pins s1 σ H1 Q I1 q1
theorem pt_not (ha : PT X a tA) : PT X (.UnaryOp .Not a pos) (tNot tA) := by
  intro pins s σ H Q I h
  exact isTrue_not (ha pins s σ H (fun c H1 => Q (!c) H1) I h)
def tAndV (ta tb : TE) : TE := fun σ H Q => ta σ H fun x H1 => ∃ c, x = .bl c ∧ if c = true then tb σ H1 Q else Q (.bl false) H1
def tOrV (ta tb : TE) : TE := fun σ H Q => ta σ H fun x H1 => ∃ c, x = .bl c ∧ if c = true then Q (.bl true) H1 else tb σ H1 Q
def tNotV (ta : TE) : TE := fun σ H Q => ta σ H fun x H1 => ∃ c, x = .bl c ∧ Q (.bl (!c)) H1
theorem pe_one {op} {t : TE} (h : PE X a t) : PE X (.BoolOp op [a] pos) t := fun pins s σ H Q I hw => BoolOp_one (h pins s σ H Q I hw)
theorem pe_and (ha : PE X a ta) (hb : PE X (.BoolOp .And (b :: rest) pos) tb) : PE X (.BoolOp .And (a :: b :: rest) pos) (tAndV ta tb) := by
  intro pins s σ H Q I h
  refine BoolOp_and (thn (ha pins s σ H _ I h) fun v s1 ⟨x, H1, I1, r1, q1⟩ => ?_)
  obtain ⟨c, rfl, q1⟩ := q1
  cases r1
  refine wpAny_truthy_bool ?_
  cases c with
  | true => exact hb pins s1 σ H1 Q I1 q1
  | false => exact ⟨.bl false, H1, I1, rfl, q1⟩
theorem pe_or (ha : PE X a ta) (hb : PE X (.BoolOp .Or (b :: rest) pos) tb) : PE X (.BoolOp .Or (a :: b :: rest) pos) (tOrV ta tb) := by
  intro pins s σ H Q I h
  refine BoolOp_or (thn (ha pins s σ H _ I h) fun v s1 ⟨x, H1, I1, r1, q1⟩ => ?_)
  obtain ⟨c, rfl, q1⟩ := q1
  cases r1
  refine wpAny_truthy_bool ?_
  cases c with
  | false => exact hb pins s1 σ H1 Q I1 q1
  | true => exact ⟨.bl true, H1, I1, rfl, q1⟩
theorem pe_not (ha : PE X a ta) : PE X (.UnaryOp .Not a pos) (tNotV ta) := by
  intro pins s σ H Q I h
  refine UnaryOp_ (thn (ha pins s σ H _ I h) fun v s1 ⟨x, H1, I1, r1, q1⟩ => ?_)
  obtain ⟨c, rfl, q1⟩ := q1
  cases r1
  exact not_of (wpAny_truthy_bool ⟨.bl (!c), H1, I1, rfl, q1⟩)
def tIf (t : TT) (ta tb : TE) : TE := fun σ H Q => t σ H fun c H1 => if c = true then ta σ H1 Q else tb σ H1 Q
theorem pe_ifExp {c : Expr} (hc : PT X c tA) (ha : PE X a ta) (hb : PE X b tb) : PE X (.IfExp c a b pos) (tIf tA ta tb) := by
  intro pins s σ H Q I h
  refine wpAny_IfExp (thn (hc pins s σ H _ I h) fun d s1 ⟨H1, I1, q1⟩ => ?_)
  cases d with
  | true => exact ha pins s1 σ H1 Q I1 q1
  | false => exact hb pins s1 σ H1 Q I1 q1
end
end L2
namespace L2
open PySem PySem.Spec PyProof.Rows
def SqL (K : PySem.W.Frag) (H : Hp) (a : Addr) (xs : List V) : Prop :=
  Rd H a (.lst xs) ∨
    ∃ (o : Obj) (its : Array Value) (n : Nat), K.lookup a = some o ∧ o.cls = .type "list" ∧ o.dict = none ∧ o.data = .seq its n ∧ its.size ≤ sizeLine ∧ Vals xs its.toList
def SqT (K : PySem.W.Frag) (H : Hp) (a : Addr) (xs : List V) : Prop :=
  Rd H a (.tup xs) ∨
    ∃ (o : Obj) (its : Array Value) (n : Nat), K.lookup a = some o ∧ o.cls = .type "tuple" ∧ o.data = .seq its n ∧ its.size ≤ sizeLine ∧ Vals xs its.toList
def absV : Value → Option V
  | .none => some .non
  | .bool b => some (.bl b)
  | .int i _ => some (.int i)
  | .str x _ => some (.str x)
  | .bytes b _ => some (.byt b)
  | .float b _ => some (.flt b)
  | .ref a => some (.ref a)
  | .type n => some (.ty n)
  | _ => none
theorem RelV.abs {x : V} {u : Value} (r : RelV x u) : absV u = some x := by
  cases x with
  | non => cases r; rfl
  | bl _ => cases r; rfl
  | int _ => obtain ⟨t, rfl⟩ := r; rfl
  | str _ => obtain ⟨t, rfl⟩ := r; rfl
  | byt _ => obtain ⟨t, rfl⟩ := r; rfl
  | flt _ => obtain ⟨t, rfl⟩ := r; rfl
  | ref _ => cases r; rfl
  | ty _ => cases r; rfl
theorem RelV.inj {x y : V} {u : Value} (r : RelV x u) (q : RelV y u) : x = y := Option.some.inj (r.abs.symm.trans q.abs)
theorem Vals.inj : ∀ {xs ys : List V} {us : List Value}, Vals xs us → Vals ys us → xs = ys
  | _, _, _, .nil, .nil => rfl
  | _, _, _, .cons r t, .cons r' t' => by rw [r.inj r', Vals.inj t t']
section
variable {X : Cx} {pins : List (Addr × Obj)} {σ : St} {H : Hp} {s : Shared} {a : Addr} {xs ys : List V}
theorem SqL.of {K : PySem.W.Frag} (h : H a = some (.lst xs)) : SqL K H a xs := .inl (.inl h)
theorem Inv.list (I : Inv X pins σ H s) (h : SqL X.K H a xs) : ∃ its : List Value, Vals xs its ∧ PlainL s.heap a its.toArray ∧ xs.length ≤ sizeLine := by
  rcases h with h | ⟨o, its, n, hk, hc, hd, hs, hz, r⟩
  · obtain ⟨z, its, n, r, e⟩ := h.ok I.hok
    exact ⟨its, r, ⟨_, n, e, rfl, rfl, rfl⟩, z⟩
  · refine ⟨its.toList, r, ⟨o, n, I.kIn a o hk, hc, hd, by simpa using hs⟩, ?_⟩
    have e := r.length
    simp only [Array.length_toList] at e
    omega
theorem Inv.tuple (I : Inv X pins σ H s) (h : SqT X.K H a xs) : ∃ its : List Value, Vals xs its ∧ IsTup s.heap a its.toArray ∧ xs.length ≤ sizeLine := by
  rcases h with h | ⟨o, its, n, hk, hc, hs, hz, r⟩
  · obtain ⟨z, its, r, p⟩ := h.ok I.hok
    exact ⟨its, r, p, z⟩
  · refine ⟨its.toList, r, ⟨o, I.kIn a o hk, hc, n, by simpa using hs⟩, ?_⟩
    have e := r.length
    simp only [Array.length_toList] at e
    omega
theorem Inv.list_inj (I : Inv X pins σ H s) (h : SqL X.K H a xs) (h' : SqL X.K H a ys) : xs = ys := by
  obtain ⟨its, r, ⟨o, n, e, _, _, d⟩, _⟩ := I.list h
  obtain ⟨its', r', ⟨o', n', e', _, _, d'⟩, _⟩ := I.list h'
  rw [e] at e'; cases e'
  rw [d] at d'
  injection d' with d1 _
  have : its = its' := by simpa using congrArg Array.toList d1
  subst this
  exact r.inj r'
theorem Inv.tuple_inj (I : Inv X pins σ H s) (h : SqT X.K H a xs) (h' : SqT X.K H a ys) : xs = ys := by
  obtain ⟨its, r, ⟨o, e, _, n, d⟩, _⟩ := I.tuple h
  obtain ⟨its', r', ⟨o', e', _, n', d'⟩, _⟩ := I.tuple h'
  rw [e] at e'; cases e'
  rw [d] at d'
  injection d' with d1 _
  have : its = its' := by simpa using congrArg Array.toList d1
  subst this
  exact r.inj r'
end
abbrev Cx.wish (X : Cx) (E : Value → Shared → Prop) : Cx := { X with xe := E }
abbrev Cx.nox (X : Cx) : Cx := X.wish fun _ _ => False
theorem Cx.Ok.wish {X : Cx} (ok : X.Ok) (E : Value → Shared → Prop) : (X.wish E).Ok :=
  ⟨ok.mod, ok.kind, ok.glob, ok.blt, ok.above, ok.inj, ok.has, ok.cab, ok.hd, ok.frames, ok.stk, ok.exf, ok.bs, ok.bsz, ok.noex, ok.exfs, ok.funs, ok.frf⟩
theorem Cx.Ok.unwish {X : Cx} {E : Value → Shared → Prop} (ok : (X.wish E).Ok) : X.Ok :=
  ⟨ok.mod, ok.kind, ok.glob, ok.blt, ok.above, ok.inj, ok.has, ok.cab, ok.hd, ok.frames, ok.stk, ok.exf, ok.bs, ok.bsz, ok.noex, ok.exfs, ok.funs, ok.frf⟩
section
variable {X : Cx} {pins : List (Addr × Obj)} {σ : St} {H : Hp} {s : Shared} {E : Value → Shared → Prop}
theorem Inv.wish (I : Inv X pins σ H s) (E : Value → Shared → Prop) : Inv (X.wish E) pins σ H s := ⟨I.ok.wish E, I.os, I.bare, I.base, I.loc, I.cell, I.free, I.freeC, I.pin, I.hok, I.len⟩
theorem Inv.unwish (I : Inv (X.wish E) pins σ H s) : Inv X pins σ H s := ⟨I.ok.unwish, I.os, I.bare, I.base, I.loc, I.cell, I.free, I.freeC, I.pin, I.hok, I.len⟩
theorem SP.unwish {D : Ends} {f : Flow} {s' : Shared} (h : SP (X.wish E) pins D f s') : SP X pins D f s' := by
  cases f with
  | next => obtain ⟨σ', H', I, q⟩ := h; exact ⟨σ', H', I.unwish, q⟩
  | brk => obtain ⟨σ', H', I, q⟩ := h; exact ⟨σ', H', I.unwish, q⟩
  | cont => obtain ⟨σ', H', I, q⟩ := h; exact ⟨σ', H', I.unwish, q⟩
  | ret u => obtain ⟨v, σ', H', I, r, q⟩ := h; exact ⟨v, σ', H', I.unwish, r, q⟩
theorem PSs.nox {st : List Stmt} {t : TS} (h : PSs X.nox st t) : PSs X st t := fun pins s σ H D I hw =>
  wpAny_mono (h pins s σ H D (I.wish _) hw) (fun _ _ q => q.unwish) fun _ _ z => False.elim z
end
section
variable {X : Cx} {st : Stmt} {rest : List Stmt} {t u : TS} {e : Expr} {te : TE} {pos : Pos}
def tNext : TS := fun D σ H => D.nx σ H
def tSeq (t u : TS) : TS := fun D σ H => t { D with nx := u D } σ H
theorem pss_nil : PSs X [] tNext := fun _ _ σ H _ I h => wpAny_execs_nil ⟨σ, H, I, h⟩
theorem pss_cons (h1 : PS X st t) (h2 : PSs X rest u) : PSs X (st :: rest) (tSeq t u) := by
  intro pins s σ H D I h
  refine wpAny_execs_cons (thn (h1 pins s σ H { D with nx := u D } I h) fun f s1 q => ?_)
  cases f with
  | next =>
    obtain ⟨σ', H', I', q⟩ := q
    exact h2 pins s1 σ' H' D I' q
  | ret v => exact q
  | brk => exact q
  | cont => exact q
theorem pss_one (h1 : PS X st t) : PSs X [st] t := by
  intro pins s σ H D I h
  refine wpAny_execs_cons (thn (h1 pins s σ H D I h) fun f s1 q => ?_)
  cases f with
  | next => exact wpAny_execs_nil q
  | ret v => exact q
  | brk => exact q
  | cont => exact q
theorem Inv.quiet {pins : List (Addr × Obj)} {σ : St} {H : Hp} {s : Shared} (I : Inv X pins σ H s) : interactive X.env = false := by simp [interactive, I.ok.kind]
def tDrop (te : TE) : TS := fun D σ H => te σ H fun _ H1 => D.nx σ H1
theorem ps_expr (he : PE X e te) (hs : swapsWith e none pos.line X.env = pure false := by rfl) : PS X (.Expr e pos) (tDrop te) := by
  intro pins s σ H D I h
  exact wpAny_Expr_any (thn (he pins s σ H _ I h) fun v s1 ⟨x, H1, I1, r1, q1⟩ => ⟨σ, H1, I1, q1⟩) I.quiet hs
def tRet (te : TE) : TS := fun D σ H => te σ H D.rt
theorem ps_ret (he : PE X e te) : PS X (.Return (some e) pos) (tRet te) := by
  intro pins s σ H D I h
  exact wpAny_Return_some (thn (he pins s σ H _ I h) fun v s1 ⟨x, H1, I1, r1, q1⟩ => ⟨x, σ, H1, I1, r1, q1⟩)
def tIfS (c : TT) (t u : TS) : TS := fun D σ H => c σ H fun b H1 => if b = true then t D σ H1 else u D σ H1
theorem ps_if {c : Expr} {a b : List Stmt} {tc : TT} (hc : PT X c tc) (ha : PSs X a t) (hb : PSs X b u) : PS X (.If c a b pos) (tIfS tc t u) := by
  intro pins s σ H D I h
  refine wpAny_If (thn (hc pins s σ H _ I h) fun d s1 ⟨H1, I1, q1⟩ => ?_)
  cases d with
  | true => exact ha pins s1 σ H1 D I1 q1
  | false => exact hb pins s1 σ H1 D I1 q1
end
abbrev TG := V → St → Hp → (St → Hp → Prop) → Prop
abbrev TGs := List V → St → Hp → (St → Hp → Prop) → Prop
def PG (X : Cx) (target : Expr) (t : TG) : Prop :=
  ∀ (pins : List (Addr × Obj)) (s : Shared) (σ : St) (H : Hp) (v : V) (u : Value) (Q : St → Hp → Prop), Inv X pins σ H s → RelV v u → t v σ H Q →
    wpAny (model X.prog X.w) X.A (assign target X.env u) (fun _ s' => ∃ σ' H', Inv X pins σ' H' s' ∧ Q σ' H') X.xe s
def PGs (X : Cx) (ts : List Expr) (t : TGs) : Prop :=
  ∀ (pins : List (Addr × Obj)) (s : Shared) (σ : St) (H : Hp) (vs : List V) (us : List Value) (Q : St → Hp → Prop), Inv X pins σ H s → Vals vs us → t vs σ H Q →
    wpAny (model X.prog X.w) X.A (assignInOrder ((assignEach ts X.env).map (·.2)) us) (fun _ s' => ∃ σ' H', Inv X pins σ' H' s' ∧ Q σ' H') X.xe s
abbrev TSet := V → V → V → Hp → (Hp → Prop) → Prop
def PSet (X : Cx) (t : TSet) : Prop :=
  ∀ (pins : List (Addr × Obj)) (s : Shared) (σ : St) (H : Hp) (o i v : V) (ov iv u : Value) (Q : Hp → Prop), Inv X pins σ H s → RelV o ov → RelV i iv → RelV v u → t o i v H Q →
    wpAny (model X.prog X.w) X.A (setItem ov iv u) (fun _ s' => ∃ H', Inv X pins σ H' s' ∧ Q H') X.xe s
section
variable {X : Cx} {pos : Pos}
def gName (i : Nat) : TG := fun v σ H Q => Q (σ.set i (some v)) H
theorem pg_name {i : Nat} {x : Str} (hN : X.N.Nodup) (hi : X.N[i]? = some x) (hx : Loc X.env.scope x) (hf : X.fn x = true ∨ X.env.scope.names.lookup x = some .local := by first | exact .inl rfl | exact .inr rfl | assumption) : PG X (.Name x pos) (gName i) := by
  intro pins s σ H v u Q I r h
  exact wpAny_assign_Name (store_ok I hN hi hx r (fun s' I' => ⟨_, H, I', h⟩) hf)
def gNil : TGs := fun vs σ H Q => vs = [] ∧ Q σ H
def gCons (t : TG) (u : TGs) : TGs := fun vs σ H Q => ∃ v r, vs = v :: r ∧ t v σ H fun σ' H' => u r σ' H' Q
theorem pgs_nil : PGs X [] gNil := by
  intro pins s σ H vs us Q I r h
  obtain ⟨e, h⟩ := h
  subst e
  cases r
  exact assignInOrder_nil ⟨σ, H, I, h⟩
theorem pgs_cons {e : Expr} {es : List Expr} {t : TG} {u : TGs} (h1 : PG X e t) (h2 : PGs X es u)
    (hs : (assignEach (e :: es) X.env).map (·.2) = assign e X.env :: (assignEach es X.env).map (·.2) := by rfl) : PGs X (e :: es) (gCons t u) := by
  intro pins s σ H vs us Q I r h
  obtain ⟨v, vr, e1, h⟩ := h
  subst e1
  cases r with
  | cons r rr =>
    rw [hs]
    refine assignInOrder_cons (thn (h1 pins s σ H _ _ _ I r h) fun _ s1 ⟨σ1, H1, I1, q1⟩ => ?_)
    exact h2 pins s1 σ1 H1 _ _ Q I1 rr q1
def gTup (K : PySem.W.Frag) (n : Nat) (t : TGs) : TG := fun v σ H Q => ∃ a xs, v = .ref a ∧ SqT K H a xs ∧ xs.length = n ∧ t xs σ H Q
theorem pg_tup {es : List Expr} {k : Nat} {t : TGs} {n : Nat} (hc : X.calm = true) (h : PGs X es t)
    (hn : (assignEach es X.env).length = n := by rfl) (hst : (assignEach es X.env).findIdx? (·.1) = none := by rfl) : PG X (.Tuple es k pos) (gTup X.K n t) := by
  intro pins s σ H v u Q I r hw
  obtain ⟨a, xs, e1, hq, hl, hw⟩ := hw
  subst e1
  cases r
  obtain ⟨its, rv, ht, hz⟩ := I.tuple hq
  refine assign_Tuple_tuple (I.ok.hd hc) ht (by simp [hn, ← hl, rv.length]) hst fun h' hx => ?_
  have I1 : Inv X pins σ H { s with heap := h' } := I.kept (t' := s.toks) fun b o e => hx b o (Nat.ne_of_lt (Heap.lt_size e)) e
  exact h pins _ σ H xs _ Q I1 (by simpa using rv) hw
def gSub (to ti : TE) (t : TSet) : TG := fun v σ H Q => to σ H fun o H1 => ti σ H1 fun i H2 => t o i v H2 fun H3 => Q σ H3
theorem pg_sub {o i : Expr} {to ti : TE} {t : TSet} (ho : PE X o to) (hi : PE X i ti) (hs : PSet X t)
    (ha : ∀ v, assign (.Subscript o i pos) X.env v = (do
      let ov ← holding [v] (eval o X.env)
      let iv ← holding [v, ov] (eval i X.env)
      standAt pos
      holding [v, ov, iv] (setItem ov iv v)
      release [v, ov, iv] []) := by intro _; rfl) : PG X (.Subscript o i pos) (gSub to ti t) := by
  intro pins s σ H v u Q I r h
  rw [ha]
  refine wpAny_bind (wpAny_holding (thn (ho pins s σ H _ I h) fun ov s1 ⟨x, H1, I1, r1, q1⟩ => ?_))
  refine wpAny_bind (wpAny_holding (thn (hi pins s1 σ H1 _ I1 q1) fun iv s2 ⟨y, H2, I2, r2, q2⟩ => ?_))
  refine wpAny_bind (wpAny_standAt (wpAny_bind (wpAny_holding (thn (hs pins s2 σ H2 x y v ov iv u _ I2 r1 r2 r q2) fun _ s3 ⟨H3, I3, q3⟩ => ?_))))
  exact wpAny_release ⟨σ, H3, I3, q3⟩
def tAsg (te : TE) (g : TG) : TS := fun D σ H => te σ H fun x H1 => g x σ H1 D.nx
theorem ps_asg {tg e : Expr} {te : TE} {g : TG} (he : PE X e te) (hg : PG X tg g) (hs : swapsWithSole [tg] e pos.line X.env = pure false := by rfl) (hw : swappedStores [tg] e X.env = pure none := by rfl)
    (h1 : (assignEach [tg] X.env).map (·.2) = [assign tg X.env] := by rfl) : PS X (.Assign [tg] e pos) (tAsg te g) := by
  intro pins s σ H D I h
  refine wpAny_Assign_stores (thn (he pins s σ H _ I h) fun v s1 ⟨x, H1, I1, r1, q1⟩ => ?_) hs hw
  rw [h1]
  exact thn (hg pins s1 σ H1 x v _ I1 r1 q1) fun _ s2 q => q
theorem ps_set {i : Nat} {x : Str} {e : Expr} {te : TE} {pos' : Pos} (hN : X.N.Nodup) (hi : X.N[i]? = some x) (hx : Loc X.env.scope x) (he : PE X e te) (hs : swapsWith e (some (.Name x pos')) pos.line X.env = pure false := by rfl) (hf : X.fn x = true ∨ X.env.scope.names.lookup x = some .local := by first | exact .inl rfl | exact .inr rfl | assumption) :
    PS X (.Assign [.Name x pos'] e pos) (tAsg te (gName i)) := by
  intro pins s σ H D I h
  refine wpAny_Assign_Name (thn (he pins s σ H _ I h) fun v s1 ⟨y, H1, I1, r1, q1⟩ => ?_) hs
  exact store_ok I1 hN hi hx r1 (fun s2 I2 => ⟨_, H1, I2, q1⟩) hf
end
section
variable {X : Cx} {pos : Pos}
end
structure It where
  go : Nat → Hp → Prop
  yld : Nat → Hp → V → Hp → Prop
  stop : Nat → Hp → Prop
def FpOk (X : Cx) (pins : List (Addr × Obj)) (H : Hp) (b : Addr) : Prop :=
  H b = none ∧ b ≠ X.env.locals ∧ b ∉ X.fs ∧ (b ∈ X.ex ∨ X.s₀.heap.objs.size ≤ b) ∧ (∀ x c, X.env.cells.lookup x = some c → c ≠ b) ∧ ∀ p ∈ X.pn ++ pins, p.1 ≠ b
theorem Inv.fpOk {X : Cx} {pins : List (Addr × Obj)} {σ : St} {H H' : Hp} {s : Shared} {b : Addr} (I : Inv X pins σ H s) (hb : s.heap.objs.size ≤ b) (hn : H' b = none) : FpOk X pins H' b := by
  refine ⟨hn, Nat.ne_of_gt (Nat.lt_of_lt_of_le I.lt hb), I.nofs hb, .inr (Nat.le_trans I.sz hb), fun x c e z => ?_, fun p hp z => ?_⟩
  · obtain ⟨v, q⟩ := I.cell x c e
    exact absurd (Nat.lt_of_lt_of_le q.lt (by rw [z]; exact hb)) (Nat.lt_irrefl _)
  · exact absurd (Nat.lt_of_lt_of_le (Heap.lt_size (I.pin p hp).1) (by rw [z]; exact hb)) (Nat.lt_irrefl _)
structure Turn (P : Program) (w : World) (K : PySem.W.Frag) (tg : Expr) (J : It) (fp : List Addr) (it : Addr) (tn : Nat → Heap → Prop) : Prop where
  mem : it ∈ fp
  obj : ∀ i h, tn i h → ∀ b ∈ fp, ∃ o, h.get? b = some o ∧ ∀ v, o.data ≠ .cell v
  keep : ∀ i h h', tn i h → (∀ b ∈ fp, ∀ o, h.get? b = some o → h'.get? b = some o) → tn i h'
  item : ∀ (X : Cx), X.prog = P → X.w = w → X.K = K → X.calm = true → ∀ (i : Nat) (pins : List (Addr × Obj)) (s : Shared) (σ : St) (H : Hp) (E : Value → Shared → Prop), Inv X pins σ H s → (∀ b ∈ fp, FpOk X pins H b) → tn i s.heap → J.go i H →
    wpAny (model P w) X.A (pyNext (.ref it)) (fun r s1 => ∃ u, r = some u ∧
      wpAny (model P w) X.A (letOwnedTupleGo tg (.ref it) u) (fun _ s2 => ∃ x H', Inv X pins σ H' s2 ∧ RelV x u ∧ J.yld i H x H' ∧ tn (i + 1) s2.heap ∧ ∀ b ∈ fp, H' b = none) E s1) E s
  done : ∀ (X : Cx), X.prog = P → X.w = w → X.K = K → X.calm = true → ∀ (i : Nat) (pins : List (Addr × Obj)) (s : Shared) (σ : St) (H : Hp) (E : Value → Shared → Prop), Inv X pins σ H s → (∀ b ∈ fp, FpOk X pins H b) → tn i s.heap → J.stop i H →
    wpAny (model P w) X.A (pyNext (.ref it)) (fun r s1 => r = none ∧ Inv X pins σ H s1) E s
  self : ∀ (A : Around) (i : Nat) (s : Shared) (Q : Value → Shared → Prop) (E : Value → Shared → Prop), tn i s.heap → Q (.ref it) s → wpAny (model P w) A (pyIter (.ref it)) Q E s
abbrev TI := St → Hp → (It → Hp → Prop) → Prop
def PIE (X : Cx) (pins : List (Addr × Obj)) (σ : St) (tg : Expr) (R : It → Hp → Prop) (itv : Value) (s2 : Shared) : Prop :=
  ∃ (it : Addr) (fp : List Addr) (tn : Nat → Heap → Prop) (J : It) (H' : Hp), itv = .ref it ∧ Inv X pins σ H' s2 ∧ Turn X.prog X.w X.K tg J fp it tn ∧ tn 0 s2.heap ∧ (∀ b ∈ fp, FpOk X pins H' b) ∧ R J H'
def PI (X : Cx) (tg iter : Expr) (wi : TI) : Prop :=
  ∀ (pins : List (Addr × Obj)) (s : Shared) (σ : St) (H : Hp) (R : It → Hp → Prop), Inv X pins σ H s → wi σ H R →
    wpAny (model X.prog X.w) X.A (eval iter X.env) (fun v s1 => wpAny (model X.prog X.w) X.A (pyIter v) (PIE X pins σ tg R) X.xe s1) X.xe s
theorem go_of {M : Model} {A : Around} {E : Value → Shared → Prop} {s : Shared} {tg : Expr} {it : Addr} {u : Value} {o : Obj} {n : String} {vs : Array Value} {Q : Unit → Shared → Prop} (ho : s.heap.get? it = some o) (hc : o.cls = .type n) (hd : o.data = .fields vs)
    (hn : ["enumerate", "zip", "dict_itemiterator", "dict_reverseitemiterator", "odict_iterator", "itertools.zip_longest", "itertools.pairwise"].contains n = false) (hQ : Q () s) : wpAny M A (letOwnedTupleGo tg (.ref it) u) Q E s := by
  unfold letOwnedTupleGo
  cases tg <;> first
    | exact wpAny_pure hQ
    | (cases u <;> first
        | exact wpAny_pure hQ
        | (refine wpAny_bind (wpAny_load ho ?_)
           rw [hc, hd]
           show wpAny M A (if (["enumerate", "zip", "dict_itemiterator", "dict_reverseitemiterator", "odict_iterator", "itertools.zip_longest", "itertools.pairwise"].contains n && vs[0]? == some (rawInt _)) = true then _ else _) Q E s
           rw [if_neg (by intro h; rw [hn, Bool.false_and] at h; cases h)]
           exact wpAny_pure hQ))
def Itl (K : PySem.W.Frag) (a : Addr) : It :=
  ⟨fun i H => ∃ xs x, SqL K H a xs ∧ xs[i]? = some x, fun i H x H' => H' = H ∧ ∀ xs, SqL K H a xs → xs[i]? = some x, fun i H => ∃ xs, SqL K H a xs ∧ xs.length ≤ i⟩
def Itt (K : PySem.W.Frag) (a : Addr) : It :=
  ⟨fun i H => ∃ xs x, SqT K H a xs ∧ xs[i]? = some x, fun i H x H' => H' = H ∧ ∀ xs, SqT K H a xs → xs[i]? = some x, fun i H => ∃ xs, SqT K H a xs ∧ xs.length ≤ i⟩
def Itr (lo : Int) (n : Nat) : It := ⟨fun i _ => i < n, fun i H x H' => H' = H ∧ x = .int (lo + i), fun i _ => n ≤ i⟩
theorem turn_list {P : Program} {w : World} {K : PySem.W.Frag} {tg : Expr} (a it : Addr) : Turn P w K tg (Itl K a) [it] it (fun i h => h.IsListIter it a i) where
  mem := by simp
  obj := fun i h st b hb => by
    have e : b = it := by simpa using hb
    subst e
    obtain ⟨o, e, c, d⟩ := st
    exact ⟨o, e, fun v z => by rw [d] at z; cases z⟩
  keep := fun i h h' st k => st.at fun o e => k it (by simp) o e
  item := by
    intro X hP hw hK hc i pins s σ H E I hf st hg
    subst hP hw hK
    obtain ⟨xs, x, hq, hx⟩ := hg
    obtain ⟨its, rv, p, hz⟩ := I.list hq
    obtain ⟨u, hu, ru⟩ := rv.get hx
    obtain ⟨f0, f1, f2, f3, f4, f5⟩ := hf it (by simp)
    refine wpAny_pyNext_list_item st p.isList (x := u) (by simpa using hu) fun h' st' sb => ?_
    have I1 : Inv X pins σ H { s with heap := h' } := I.turned (t' := s.toks) (fun b o hb e => (sb.2 b hb).trans e) f0 f1 f3 f4 f5
    obtain ⟨o, e, c, d⟩ := id st'
    exact ⟨u, rfl, go_of (s := { s with heap := h' }) e c d (by decide) ⟨x, H, I1, ru, ⟨rfl, fun ys hy => by rw [I.list_inj hy hq]; exact hx⟩, st', fun b hb => (hf b hb).1⟩⟩
  done := by
    intro X hP hw hK hc i pins s σ H E I hf st hg
    subst hP hw hK
    obtain ⟨xs, hq, hx⟩ := hg
    obtain ⟨its, rv, p, hz⟩ := I.list hq
    obtain ⟨f0, f1, f2, f3, f4, f5⟩ := hf it (by simp)
    have hl := rv.length
    exact wpAny_pyNext_list_end (I.ok.hd hc) st p.isList (by simp; omega) fun h' eb => ⟨rfl, I.turned (t' := s.toks) (fun b o hb e => eb b o hb e) f0 f1 f3 f4 f5⟩
  self := fun _ _ _ _ _ st h => wpAny_pyIter_listiter st h
theorem turn_tuple {P : Program} {w : World} {K : PySem.W.Frag} {tg : Expr} (a it : Addr) : Turn P w K tg (Itt K a) [it] it (fun i h => h.IsTupleIter it a i) where
  mem := by simp
  obj := fun i h st b hb => by
    have e : b = it := by simpa using hb
    subst e
    obtain ⟨o, e, c, d⟩ := st
    exact ⟨o, e, fun v z => by rw [d] at z; cases z⟩
  keep := fun i h h' st k => st.at fun o e => k it (by simp) o e
  item := by
    intro X hP hw hK hc i pins s σ H E I hf st hg
    subst hP hw hK
    obtain ⟨xs, x, hq, hx⟩ := hg
    obtain ⟨its, rv, p, hz⟩ := I.tuple hq
    obtain ⟨u, hu, ru⟩ := rv.get hx
    obtain ⟨f0, f1, f2, f3, f4, f5⟩ := hf it (by simp)
    refine wpAny_pyNext_tuple_item st (show s.heap.IsTuple a its.toArray from p) (x := u) (by simpa using hu) fun h' st' sb => ?_
    have I1 : Inv X pins σ H { s with heap := h' } := I.turned (t' := s.toks) (fun b o hb e => (sb.2 b hb).trans e) f0 f1 f3 f4 f5
    obtain ⟨o, e, c, d⟩ := id st'
    exact ⟨u, rfl, go_of (s := { s with heap := h' }) e c d (by decide) ⟨x, H, I1, ru, ⟨rfl, fun ys hy => by rw [I.tuple_inj hy hq]; exact hx⟩, st', fun b hb => (hf b hb).1⟩⟩
  done := by
    intro X hP hw hK hc i pins s σ H E I hf st hg
    subst hP hw hK
    obtain ⟨xs, hq, hx⟩ := hg
    obtain ⟨its, rv, p, hz⟩ := I.tuple hq
    obtain ⟨f0, f1, f2, f3, f4, f5⟩ := hf it (by simp)
    have hl := rv.length
    exact wpAny_pyNext_tuple_end (I.ok.hd hc) st (show s.heap.IsTuple a its.toArray from p) (by simp; omega) fun h' eb => ⟨rfl, I.turned (t' := s.toks) (fun b o hb e => eb b o hb e) f0 f1 f3 f4 f5⟩
  self := fun _ _ _ _ _ st h => wpAny_pyIter_tupleiter st h
theorem turn_range {P : Program} {w : World} {K : PySem.W.Frag} {tg : Expr} (it : Addr) (lo : Int) (n : Nat) : Turn P w K tg (Itr lo n) [it] it (fun i h => IsRangeIter h it (lo + (i : Nat) * 1) ((n : Int) - (i : Nat)) 1) where
  mem := by simp
  obj := fun i h st b hb => by
    have e : b = it := by simpa using hb
    subst e
    exact ⟨_, st, fun v z => by
      have z' : Data.fields _ = Data.cell v := z
      cases z'⟩
  keep := fun i h h' st k => k it (by simp) _ st
  item := by
    intro X hP hw hK hc i pins s σ H E I hf st hg
    subst hP hw hK
    obtain ⟨f0, f1, f2, f3, f4, f5⟩ := hf it (by simp)
    have W := Walks.range (prog := X.prog) (w := X.w) (I.ok.hd hc) it lo 1 n
    refine W.item i s _ _ hg st fun v h' tk hv st' kk => ?_
    obtain ⟨t, rfl⟩ := hv
    have I1 : Inv X pins σ H { s with heap := h', toks := tk } := I.turned (fun b o hb e => kk b o (by simpa using hb) e) f0 f1 f3 f4 f5
    refine ⟨_, rfl, go_of (s := { s with heap := h', toks := tk }) (n := "range_iterator") st' rfl rfl (by decide) ⟨.int (lo + i), H, I1, ⟨t, ?_⟩, ⟨rfl, rfl⟩, st', fun b hb => (hf b hb).1⟩⟩
    rw [Int.mul_one]
  done := by
    intro X hP hw hK hc i pins s σ H E I hf st hg
    subst hP hw hK
    obtain ⟨f0, f1, f2, f3, f4, f5⟩ := hf it (by simp)
    exact wpAny_pyNext_range_end (I.ok.hd hc) st (by have : n ≤ i := hg; omega) fun h' eb => ⟨rfl, I.turned (t' := s.toks) (fun b o hb e => eb b o hb e) f0 f1 f3 f4 f5⟩
  self := fun _ _ _ _ _ st h => wpAny_pyIter_rangeiter st h
end L2
namespace L2
open PySem PySem.Spec PyProof.Rows
section
variable {X : Cx} {tg : Expr}
theorem range_it {pins : List (Addr × Obj)} {σ : St} {H : Hp} {s : Shared} {R : It → Hp → Prop} {E : Value → Shared → Prop} {lo hi : Int} {t u v : Tok} {tk : Nat} (I : Inv X pins σ H s) (h1 : -(2 ^ 62) ≤ lo) (h2 : lo < 2 ^ 62) (h3 : -(2 ^ 62) ≤ hi) (h4 : hi < 2 ^ 62)
    (q : R (Itr lo (hi - lo).toNat) H) : wpAny (model X.prog X.w) X.A (pyIter (.ref s.heap.objs.size)) (PIE X pins σ tg R) E { s with heap := s.heap.push { cls := .type "range", data := .fields #[.int lo t, .int hi u, .int 1 v] }, toks := tk } := by
  refine wpAny_pyIter_range (IsRange.new ..) (small_one h1 h2 h3 h4) ?_
  have I1 : Inv X pins σ H { s with heap := s.heap.push { cls := .type "range", data := .fields #[.int lo t, .int hi u, .int 1 v] }, toks := tk } := I.kept fun b o e => Heap.get?_push_of_some _ e
  refine ⟨(s.heap.push { cls := .type "range", data := .fields #[.int lo t, .int hi u, .int 1 v] }).objs.size, [(s.heap.push { cls := .type "range", data := .fields #[.int lo t, .int hi u, .int 1 v] }).objs.size], _, _, H, rfl,
    I1.kept (t' := tk) fun b o e => Heap.get?_push_of_some _ e, turn_range _ lo (hi - lo).toNat, ?_, fun b hb => ?_, q⟩
  · have e1 : lo + ((0 : Nat) : Int) * 1 = lo := by simp
    have e2 : (((hi - lo).toNat : Nat) : Int) - ((0 : Nat) : Int) = Builtin.Range.rangeSize lo hi 1 := by rw [rangeSize_one]; split <;> omega
    show IsRangeIter _ _ (lo + ((0 : Nat) : Int) * 1) ((((hi - lo).toNat : Nat) : Int) - ((0 : Nat) : Int)) 1
    rw [e1, e2]
    exact Heap.get?_push_size _ rfl
  · have e : b = (s.heap.push { cls := .type "range", data := .fields #[.int lo t, .int hi u, .int 1 v] }).objs.size := by simpa using hb
    subst e
    exact I1.fpOk (Nat.le_refl _) (I1.hok.fresh (Nat.le_refl _))
def iRng1 (ta : TA) : TI := fun σ H R => ta σ H fun vs H1 => ∃ j : Int, vs = [.int j] ∧ -(2 ^ 62) ≤ j ∧ j < 2 ^ 62 ∧ R (Itr 0 j.toNat) H1
theorem pi_range1 {a : Expr} {ta : TA} {p pos : Pos} (hg : Gl X "range") (hm : X.mg "range" = none) (ha : PA X [a] ta) (hs : starEach [a] X.env = [(false, eval a X.env)] := by rfl) : PI X tg (.Call (.Name "range" p) [a] [] pos) (iRng1 ta) := by
  intro pins s σ H R I h
  refine Call_ (ld_blt I hg hm boot_range (PyProof.Rows.callWith_type1 (thn (ha pos pins s σ H _ I h) fun us s1 ⟨vs, H1, I1, r1, q1⟩ => ?_) hs rfl))
  obtain ⟨j, e, q1, q2, q⟩ := q1
  subst e
  cases r1 with
  | cons r rr =>
    cases rr
    obtain ⟨t, rfl⟩ := r
    exact call_range_1 (range_it I1 (by omega) (by omega) q1 q2 (by simpa using q))
def tFor (wi : TI) (g : TG) (tb : TS) : TS := fun D σ H => wi σ H fun J H1 => ∃ W : Nat → Nat → St → Hp → Prop, (∃ m, W 0 m σ H1) ∧ ∀ i m σ H, W i m σ H →
  (J.stop i H ∧ D.nx σ H) ∨ (J.go i H ∧ ∃ N : St → Hp → Prop, (∀ σ' H', N σ' H' → ∃ m', m' < m ∧ W (i + 1) m' σ' H') ∧ ∀ x H', J.yld i H x H' → g x σ H' fun σ2 H2 => tb { D with nx := N, ct := N, bk := D.nx } σ2 H2)
def pinsAt (fp : List Addr) (h : Heap) : List (Addr × Obj) := fp.filterMap fun b => (h.get? b).map fun o => (b, o)
theorem mem_pinsAt {fp : List Addr} {h : Heap} {b : Addr} {o : Obj} (hb : b ∈ fp) (e : h.get? b = some o) : (b, o) ∈ pinsAt fp h := List.mem_filterMap.mpr ⟨b, hb, by rw [e]; rfl⟩
theorem of_pinsAt {fp : List Addr} {h : Heap} {p : Addr × Obj} (hp : p ∈ pinsAt fp h) : p.1 ∈ fp ∧ h.get? p.1 = some p.2 := by
  obtain ⟨b, hb, e⟩ := List.mem_filterMap.mp hp
  cases q : h.get? b with
  | none => rw [q] at e; cases e
  | some o =>
    rw [q] at e
    have e' : (b, o) = p := Option.some.inj e
    subst e'
    exact ⟨hb, q⟩
theorem Inv.pinned {pins : List (Addr × Obj)} {σ : St} {H : Hp} {s : Shared} {fp : List Addr} (I : Inv X pins σ H s) (hf : ∀ b ∈ fp, FpOk X pins H b) (ho : ∀ b ∈ fp, ∃ o, s.heap.get? b = some o ∧ ∀ v, o.data ≠ .cell v) : Inv X (pins ++ pinsAt fp s.heap) σ H s :=
  I.pins_of fun p hp => (List.mem_append.mp hp).elim (fun z => I.pin p (List.mem_append_right _ z)) fun z => by
    obtain ⟨hb, e⟩ := of_pinsAt z
    obtain ⟨f0, f1, f2, _⟩ := hf p.1 hb
    obtain ⟨o, e', d⟩ := ho p.1 hb
    rw [e] at e'; cases e'
    exact ⟨e, f0, f1, f2, d⟩
theorem Inv.unpinned {pins pl : List (Addr × Obj)} {σ : St} {H : Hp} {s : Shared} (I : Inv X (pins ++ pl) σ H s) : Inv X pins σ H s := I.pins_of fun p hp => I.pin p (List.mem_append_right _ (List.mem_append_left _ hp))
theorem ps_for {iter : Expr} {body : List Stmt} {wi : TI} {g : TG} {tb : TS} {pos : Pos} (hp : PassesOwn (model X.prog X.w) X.A X.env X.xe) (hc : X.calm = true) (hi : PI X tg iter wi) (hg : PG X tg g) (hb : PSs X body tb)
    (hs : ∀ x, foldedSetIterable iter X.env x = pure x := by intro _; rfl) : PS X (.For tg iter body [] pos) (tFor wi g tb) := by
  intro pins s σ H D I h
  refine wpAny_For (thn (hi pins s σ H _ I h) fun v s1 h1 => thn h1 fun itv s2 h2 => ?_) hs
  obtain ⟨it, fp, tn, J, H2, e, I2, T, st2, f2, W, ⟨m0, w0⟩, turn⟩ := h2
  subst e
  -- what stays true of the iterator's objects through the loop
  have stat : ∀ {H' : Hp}, (∀ b ∈ fp, H' b = none) → ∀ b ∈ fp, FpOk X pins H' b := fun hn b hb => ⟨hn b hb, (f2 b hb).2⟩
  refine codeAny_forLoop_any (fun n s' => ∃ i σ' H', Inv X pins σ' H' s' ∧ tn i s'.heap ∧ (∀ b ∈ fp, H' b = none) ∧ W i n σ' H') ?_ m0 ⟨0, σ, H2, I2, st2, fun b hb => (f2 b hb).1, w0⟩
  rintro n s3 ⟨i, σ3, H3, I3, st3, fr3, w3⟩
  rcases turn i n σ3 H3 w3 with ⟨stop, qn⟩ | ⟨go, N, hN, step⟩
  · refine wpAny_passesOwn hp (thn (T.done X rfl rfl rfl hc i pins s3 σ3 H3 X.xe I3 (stat fr3) st3 stop) fun r s4 ⟨hr, I4⟩ => ?_)
    subst hr
    exact wpAny_execs_nil ⟨σ3, H3, I4, qn⟩
  · refine wpAny_passesOwn hp (thn (T.item X rfl rfl rfl hc i pins s3 σ3 H3 X.xe I3 (stat fr3) st3 go) fun r s4 ⟨u, hr, h4⟩ => ?_)
    subst hr
    refine wpAny_passesOwn hp (thn h4 fun _ s5 ⟨x, H5, I5, r5, y5, st5, fr5⟩ => ?_)
    have I5' := I5.pinned (stat fr5) (T.obj _ _ st5)
    refine wpAny_passesOwn hp (thn (hg _ s5 σ3 H5 x u _ I5' r5 (step x H5 y5)) fun _ s6 ⟨σ6, H6, I6, q6⟩ => ?_)
    refine wpAny_passesOwn hp (thn (hb _ s6 σ6 H6 _ I6 q6) fun f s7 q7 => ?_)
    have again : ∀ {σ7 : St} {H7 : Hp}, Inv X (pins ++ pinsAt fp s5.heap) σ7 H7 s7 → N σ7 H7 → ∃ m, m < n ∧ ∃ i σ' H', Inv X pins σ' H' s7 ∧ tn i s7.heap ∧ (∀ b ∈ fp, H' b = none) ∧ W i m σ' H' := fun {σ7 H7} I7 n7 => by
      obtain ⟨m', hm, w7⟩ := hN σ7 H7 n7
      refine ⟨m', hm, i + 1, σ7, H7, I7.unpinned, T.keep _ _ _ st5 fun b hb o e => (I7.pin (b, o) (List.mem_append_right _ (List.mem_append_right _ (mem_pinsAt hb e)))).1, fun b hb => ?_, w7⟩
      obtain ⟨o, e, d⟩ := T.obj _ _ st5 b hb
      exact (I7.pin (b, o) (List.mem_append_right _ (List.mem_append_right _ (mem_pinsAt hb e)))).2.1
    cases f with
    | next => obtain ⟨σ7, H7, I7, n7⟩ := q7; exact again I7 n7
    | cont => obtain ⟨σ7, H7, I7, n7⟩ := q7; exact again I7 n7
    | brk => obtain ⟨σ7, H7, I7, q7⟩ := q7; exact ⟨σ7, H7, I7.unpinned, q7⟩
    | ret v => obtain ⟨x7, σ7, H7, I7, r7, q7⟩ := q7; exact ⟨x7, σ7, H7, I7.unpinned, r7, q7⟩
end
end L2
namespace L2
open PySem PySem.Spec PyProof.Rows
abbrev R2 := V → V → Hp → VK → Prop
def OpR (X : Cx) (f : Value → Value → Sem Value) (r : R2) : Prop :=
  ∀ (pins : List (Addr × Obj)) (s : Shared) (σ : St) (H : Hp) (x y : V) (v u : Value) (Q : VK), Inv X pins σ H s → RelV x v → RelV y u → r x y H Q →
    wpAny (model X.prog X.w) X.A (f v u) (EP X pins σ Q) X.xe s
def UnR (X : Cx) (f : Value → Sem Value) (r : V → Hp → VK → Prop) : Prop :=
  ∀ (pins : List (Addr × Obj)) (s : Shared) (σ : St) (H : Hp) (x : V) (v : Value) (Q : VK), Inv X pins σ H s → RelV x v → r x H Q →
    wpAny (model X.prog X.w) X.A (f v) (EP X pins σ Q) X.xe s
def CallR (X : Cx) (f : Value) (r : List V → Hp → VK → Prop) : Prop :=
  ∀ (pins : List (Addr × Obj)) (s : Shared) (σ : St) (H : Hp) (xs : List V) (us : List Value) (Q : VK), Inv X pins σ H s → Vals xs us → r xs H Q →
    wpAny (model X.prog X.w) X.A (call f us) (EP X pins σ Q) X.xe s
def tOp (r : R2) (ta tb : TE) : TE := fun σ H Q => ta σ H fun x H1 => tb σ H1 fun y H2 => r x y H2 Q
def tUn (r : V → Hp → VK → Prop) (ta : TE) : TE := fun σ H Q => ta σ H fun x H1 => r x H1 Q
def rI (C : Int → Int → Prop) (g : Int → Int → V) : R2 := fun x y H Q => ∃ i j, x = .int i ∧ y = .int j ∧ C i j ∧ Q (g i j) H
def rI0 (g : Int → Int → V) : R2 := fun x y H Q => ∃ i j, x = .int i ∧ y = .int j ∧ Q (g i j) H
def rU (g : Int → V) : V → Hp → VK → Prop := fun x H Q => ∃ i, x = .int i ∧ Q (g i) H
section
variable {X : Cx} {a b c : Expr} {ta tb tc : TE} {pos : Pos}
theorem binT (ha : PE X a ta) (hb : PE X b tb) {pins : List (Addr × Obj)} {s : Shared} {σ : St} {H : Hp} {R : V → V → Hp → Prop} (I : Inv X pins σ H s)
    (h : ta σ H fun x H1 => tb σ H1 fun y H2 => R x y H2) {Q : Value → Shared → Prop} {f : Value → Value → Sem Value}
    (hf : ∀ v u s2 x y H2, Inv X pins σ H2 s2 → RelV x v → RelV y u → R x y H2 → wpAny (model X.prog X.w) X.A (f v u) Q X.xe s2) :
    wpAny (model X.prog X.w) X.A (eval a X.env) (fun v s₁ => wpAny (model X.prog X.w) X.A (eval b X.env) (fun u s₂ => wpAny (model X.prog X.w) X.A (f v u) Q X.xe s₂) X.xe s₁) X.xe s := by
  refine thn (ha pins s σ H _ I h) fun v s1 ⟨x, H1, I1, r1, q1⟩ => ?_
  refine thn (hb pins s1 σ H1 _ I1 q1) fun u s2 ⟨y, H2, I2, r2, q2⟩ => ?_
  exact hf v u s2 x y H2 I2 r1 r2 q2
theorem pe_op {op : Operator} {r : R2} (ho : OpR X (binaryOp op) r) (ha : PE X a ta) (hb : PE X b tb) : PE X (.BinOp a op b pos) (tOp r ta tb) := by
  intro pins s σ H Q I h
  exact wpAny_BinOp (binT ha hb I h fun v u s2 x y H2 I2 rx ry q => ho pins s2 σ H2 x y v u Q I2 rx ry q)
theorem pe_un {op : UnaryOp} {r : V → Hp → VK → Prop} (ho : UnR X (unaryOp op) r) (ha : PE X a ta) : PE X (.UnaryOp op a pos) (tUn r ta) := by
  intro pins s σ H Q I h
  exact UnaryOp_ (thn (ha pins s σ H _ I h) fun v s1 ⟨x, H1, I1, r1, q1⟩ => ho pins s1 σ H1 x v Q I1 r1 q1)
theorem opI {f : Value → Value → Sem Value} {C : Int → Int → Prop} {g : Int → Int → Int}
    (rule : ∀ (i j : Int) (t u : Tok) (s : Shared) (Q : Value → Shared → Prop) (E : Value → Shared → Prop), C i j → Q (.int (g i j) s.toks) { s with toks := s.toks + 1 } → wpAny (model X.prog X.w) X.A (f (.int i t) (.int j u)) Q E s) :
    OpR X f (rI C fun i j => .int (g i j)) := by
  intro pins s σ H x y v u Q I rx ry h
  obtain ⟨i, j, rfl, rfl, hc, q⟩ := h
  obtain ⟨t, rfl⟩ := rx
  obtain ⟨t', rfl⟩ := ry
  exact rule i j t t' s _ _ hc ⟨.int (g i j), H, I.tok _, ⟨_, rfl⟩, q⟩
theorem opI0 {f : Value → Value → Sem Value} {g : Int → Int → Int}
    (rule : ∀ (i j : Int) (t u : Tok) (s : Shared) (Q : Value → Shared → Prop) (E : Value → Shared → Prop), Q (.int (g i j) s.toks) { s with toks := s.toks + 1 } → wpAny (model X.prog X.w) X.A (f (.int i t) (.int j u)) Q E s) :
    OpR X f (rI0 fun i j => .int (g i j)) := by
  intro pins s σ H x y v u Q I rx ry h
  obtain ⟨i, j, rfl, rfl, q⟩ := h
  obtain ⟨t, rfl⟩ := rx
  obtain ⟨t', rfl⟩ := ry
  exact rule i j t t' s _ _ ⟨.int (g i j), H, I.tok _, ⟨_, rfl⟩, q⟩
theorem opB0 {f : Value → Value → Sem Value} {g : Int → Int → Bool}
    (rule : ∀ (i j : Int) (t u : Tok) (s : Shared) (Q : Value → Shared → Prop) (E : Value → Shared → Prop), Q (.bool (g i j)) s → wpAny (model X.prog X.w) X.A (f (.int i t) (.int j u)) Q E s) :
    OpR X f (rI0 fun i j => .bl (g i j)) := by
  intro pins s σ H x y v u Q I rx ry h
  obtain ⟨i, j, rfl, rfl, q⟩ := h
  obtain ⟨t, rfl⟩ := rx
  obtain ⟨t', rfl⟩ := ry
  exact rule i j t t' s _ _ ⟨.bl (g i j), H, I, rfl, q⟩
def CDiv (i j : Int) : Prop := 0 < j ∧ j < 1073741824
def CPow (i j : Int) : Prop := 0 ≤ j ∧ j ≤ 1000000 ∧ i.natAbs < 2 ^ 64
def CMul (i j : Int) : Prop := (-(2 ^ 64) < i ∧ i < 2 ^ 64) ∨ (-(2 ^ 64) < j ∧ j < 2 ^ 64)
theorem CMul.ok {i j : Int} (h : CMul i j) : IntMulOk i j := by
  rcases h with ⟨h1, h2⟩ | ⟨h1, h2⟩
  · exact .of_left (intBits_le_64 h1 h2)
  · exact .of_right (intBits_le_64 h1 h2)
theorem op_add : OpR X (binaryOp .Add) (rI0 fun i j => .int (i + j)) := opI0 fun _ _ _ _ _ _ _ q => add_int q
theorem op_sub : OpR X (binaryOp .Sub) (rI0 fun i j => .int (i - j)) := opI0 fun _ _ _ _ _ _ _ q => sub_int q
theorem op_mul : OpR X (binaryOp .Mult) (rI CMul fun i j => .int (i * j)) := opI fun _ _ _ _ _ _ _ hc q => mul_int q hc.ok
theorem op_fdiv : OpR X (binaryOp .FloorDiv) (rI CDiv fun i j => .int (i / j)) := opI fun i j _ _ _ _ _ hc q => by
  have h1 : (0 : Int) < j := hc.1
  have h2 : j < 1073741824 := hc.2
  exact floordiv_int (by omega) (by rw [Int.fdiv_eq_ediv_of_nonneg i (by omega)]; exact q) (.inl (PyProof.noPylong_small (by omega)))
theorem op_mod : OpR X (binaryOp .Mod) (rI (fun _ j => 0 < j) fun i j => .int (i % j)) := opI fun i j _ _ _ _ _ hc q => by
  have h1 : (0 : Int) < j := hc
  exact mod_int' (by omega) (by rw [Int.fmod_eq_emod_of_nonneg i (by omega)]; exact q)
theorem op_pow : OpR X (binaryOp .Pow) (rI CPow fun i j => .int (i ^ j.toNat)) := opI fun _ _ _ _ _ _ _ hc q => pow_int_small hc.1 hc.2.1 hc.2.2 q
theorem unI {f : Value → Sem Value} {g : Int → Int}
    (rule : ∀ (i : Int) (t : Tok) (s : Shared) (Q : Value → Shared → Prop) (E : Value → Shared → Prop), Q (.int (g i) s.toks) { s with toks := s.toks + 1 } → wpAny (model X.prog X.w) X.A (f (.int i t)) Q E s) :
    UnR X f (rU fun i => .int (g i)) := by
  intro pins s σ H x v Q I rx h
  obtain ⟨i, rfl, q⟩ := h
  obtain ⟨t, rfl⟩ := rx
  exact rule i t s _ _ ⟨.int (g i), H, I.tok _, ⟨_, rfl⟩, q⟩
theorem un_neg : UnR X (unaryOp .USub) (rU fun i => .int (-i)) := unI fun _ _ _ _ _ q => neg_int q
end
section
variable {X : Cx} {a b c : Expr} {ta tb tc : TE} {pos : Pos}
theorem fin_bl {pins : List (Addr × Obj)} {σ : St} {H : Hp} {s : Shared} {Q : VK} {k k' : Bool} (I : Inv X pins σ H s) (q : Q (.bl k) H) (e : k = k') : EP X pins σ Q (.bool k') s := by
  subst e
  exact ⟨.bl k, H, I, rfl, q⟩
theorem op_lt : OpR X (compareOp .Lt) (rI0 fun i j => .bl (decide (i < j))) := opB0 fun _ _ _ _ _ _ _ q => lt_int q
theorem op_gt : OpR X (compareOp .Gt) (rI0 fun i j => .bl (decide (j < i))) := opB0 fun _ _ _ _ _ _ _ q => gt_int q
theorem op_ge : OpR X (compareOp .GtE) (rI0 fun i j => .bl (decide (j ≤ i))) := opB0 fun _ _ _ _ _ _ _ q => ge_int q
theorem op_isN : OpR X (compareOp .Is) (fun x y H Q => y = .non ∧ Q (.bl (decide (x = .non))) H) := by
  intro pins s σ H x y v u Q I rx ry h
  obtain ⟨rfl, q⟩ := h
  cases ry
  refine is_none_gen (fin_bl I q ?_)
  cases x <;> first
    | (cases rx; rfl)
    | (obtain ⟨t, rfl⟩ := rx; rfl)
theorem op_notN : OpR X (compareOp .IsNot) (fun x y H Q => y = .non ∧ Q (.bl (!decide (x = .non))) H) := by
  intro pins s σ H x y v u Q I rx ry h
  obtain ⟨rfl, q⟩ := h
  cases ry
  refine isnot_none_gen (fin_bl I q ?_)
  cases x <;> first
    | (cases rx; rfl)
    | (obtain ⟨t, rfl⟩ := rx; rfl)
theorem OpR.or {f : Value → Value → Sem Value} {r r' : R2} (h : OpR X f r) (h' : OpR X f r') : OpR X f (fun x y H Q => r x y H Q ∨ r' x y H Q) := by
  intro pins s σ H x y v u Q I rx ry q
  rcases q with q | q
  · exact h pins s σ H x y v u Q I rx ry q
  · exact h' pins s σ H x y v u Q I rx ry q
theorem nomark (b : Expr) {op : CmpOp} (h : op ≠ .In := by decide) (h2 : op ≠ .NotIn := by decide) : behindInMarks op b = false := by
  have e1 : (op == CmpOp.In) = false := by cases op <;> first | rfl | exact absurd rfl h
  have e2 : (op == CmpOp.NotIn) = false := by cases op <;> first | rfl | exact absurd rfl h2
  cases b <;> simp [behindInMarks, e1, e2]
theorem pe_cmpR {op : CmpOp} {r : R2} (ho : OpR X (compareOp op) r) (ha : PE X a ta) (hb : PE X b tb) (hm : behindInMarks op b = false) : PE X (.Compare a [op] [b] pos) (tOp r ta tb) := by
  intro pins s σ H Q I h
  exact wpAny_Compare1 (binT ha hb I h fun v u s2 x y H2 I2 rx ry q => ho pins s2 σ H2 x y v u Q I2 rx ry q) hm
def tTest (t : TE) : TT := fun σ H Q => t σ H fun x H' => ∃ k, x = .bl k ∧ Q k H'
theorem pt_cmpR {op : CmpOp} {r : R2} (ho : OpR X (compareOp op) r) (ha : PE X a ta) (hb : PE X b tb) (hm : behindInMarks op b = false) : PT X (.Compare a [op] [b] pos) (tTest (tOp r ta tb)) := by
  intro pins s σ H Q I h
  refine wpAny_isTrue_Compare1 (thn (ha pins s σ H _ I h) fun v s1 ⟨x, H1, I1, r1, q1⟩ => thn (hb pins s1 σ H1 _ I1 q1) fun u s2 ⟨y, H2, I2, r2, q2⟩ =>
    thn (ho pins s2 σ H2 x y v u _ I2 r1 r2 q2) fun c s3 ⟨z, H3, I3, r3, k, e, q3⟩ => ?_) hm
  subst e
  cases r3
  exact wpAny_truthy_bool ⟨H3, I3, q3⟩
theorem line63 : (sizeLine : Nat) < 2 ^ 63 := by rw [sizeLine_eq]; decide
theorem op_add_str : OpR X (binaryOp .Add) (fun x y H Q => ∃ i j, x = .str i ∧ y = .str j ∧ i.length + j.length ≤ sizeLine ∧ Q (.str (i ++ j)) H) := by
  intro pins s σ H x y v u Q I rx ry h
  obtain ⟨i, j, rfl, rfl, hz, q⟩ := h
  obtain ⟨t, rfl⟩ := rx
  obtain ⟨t', rfl⟩ := ry
  exact add_str (fun t' tk => ⟨.str (i ++ j), H, I.tok _, ⟨_, rfl⟩, q⟩) hz
theorem vals1 {x : V} {us : List Value} (r : Vals [x] us) : ∃ u, us = [u] ∧ RelV x u := by
  cases r with
  | cons r1 r2 => cases r2; exact ⟨_, rfl, r1⟩
end
end L2
namespace L2
open PySem PySem.Spec PyProof.Rows
structure ObjM (h : Heap) (x dx C : Addr) (mA : Str → Option Value) : Prop where
  obj : h.get? x = some (PySem.W.instObj C dx)
  ns : h.Ns1 dx mA
  ne : dx ≠ x
theorem lookIn_ns {h : Heap} {dx : Addr} {mA : Str → Option Value} (n : h.Ns1 dx mA) : ∃ od, h.get? dx = some od ∧ ∀ name, PySem.W.lookIn name od = some (mA name) := by
  obtain ⟨o, es, ep, ho, hd, hk, _, hm⟩ := n
  refine ⟨o, ho, fun name => ?_⟩
  have e := hm name
  unfold nsFind findBy at e
  rw [← Array.find?_toList] at e
  unfold PySem.W.lookIn
  rw [hd]
  dsimp only
  split
  · rename_i y q
    rw [q] at e
    exact congrArg some e
  · rename_i q
    rw [q] at e
    have a : es.toList.any (·.refKey) = false := by
      rw [List.any_eq_false]
      intro y hy
      obtain ⟨z, t, hkey⟩ := hk y (Array.mem_toList_iff.mp hy)
      simp [DictEntry.refKey, hkey]
    have a' : ¬ es.toList.any (·.refKey) = true := by rw [a]; exact Bool.false_ne_true
    rw [if_neg a']
    exact congrArg some e
theorem ObjM.look {h : Heap} {x dx C : Addr} {mA : Str → Option Value} (I : ObjM h x dx C mA) : ∃ od, PySem.W.InstAt h x (PySem.W.instObj C dx) C (some od) ∧ ∀ name, PySem.W.lookIn name od = some (mA name) :=
  let ⟨od, ho, hl⟩ := lookIn_ns I.ns
  ⟨od, ⟨I.obj, rfl, rfl, ho⟩, hl⟩
section
variable {prog : Program} {w : World} {A : Around} {E : Value → Shared → Prop} {s : Shared} {K : PySem.W.Frag} {x dx C f : Addr} {mA : Str → Option Value} {name : Str} {v : Value}
theorem set_map {ns : List Str} {Q : Unit → Shared → Prop} (X : K.In s.heap) (I : ObjM s.heap x dx C mA)
    (hs : PySem.W.findIn K (.ref C) "__setattr__" = some (some (.builtin "object.__setattr__"))) (hp : PySem.W.plainOver K C = true) (ht : PySem.W.takerIn K C name = some none) (hh : PySem.W.hasDictIn K C = true)
    (hw : PySem.Within mA ns) (hsz : ns.length ≤ sizeLine)
    (h : ∀ h', ObjM h' x dx C (fun y => if y = name then some v else mA y) → Heap.SameBut dx s.heap h' → Q () { s with heap := h', toks := s.toks + 2 }) :
    wpAny (model prog w) A (setAttr (.ref x) name v) Q E s := by
  obtain ⟨od, J, hl⟩ := I.look
  refine PySem.W.set_plain X J hs (PySem.W.osa_open (s := { s with toks := s.toks + 1 }) (r := none) X J hp ht fun b => ?_)
  obtain ⟨cd, hc, hd'⟩ := PySem.W.any_some hh
  have hx : s.heap.get? x = some ⟨.ref C, some dx, .plain, #[]⟩ := I.obj
  refine wpAny_bind (wpAny_pure (wpAny_bind (wpAny_bind (wpAny_loadPart hx (wpAny_bind (PySem.W.Looks.here (s := { s with toks := s.toks + 1 }) (PySem.W.looks_clsIn X hc) ?_))))))
  rw [hd']
  refine wpAny_pure (a := some dx) (wpAny_bind (wpAny_pure (wpAny_bind ?_)))
  refine wpAny_nsSet1 (s := { s with toks := s.toks + 1 }) I.ns fun h' hn2 hs2 => ?_
  obtain ⟨oD, esD, epD, hoD, hdD, hcD⟩ := hn2.count (PySem.Within.cons name v hw)
  refine wpAny_bind (wpAny_lookBehind hoD (by rw [hdD]; exact pastItsLine_dict (Nat.le_trans hcD (by rw [List.length_cons]; omega))) ?_)
  exact wpAny_pure (h _ ⟨(hs2.2 _ (Ne.symm I.ne)).trans I.obj, hn2, I.ne⟩ hs2)
theorem make_map {R : Result → Shared → Prop} {vs : List Value} {kw : List (Str × Value)} (X : K.In s.heap) (hm : PySem.W.makesIn K C = true)
    (hi : PySem.W.findIn K (.ref C) "__init__" = some (some (.ref f))) (hf : PySem.W.typeIn K (.ref f) = some (.type "function"))
    (h : codeAny (model prog w) (A.under (.builtin "type.__call__" ⟨.ref C :: vs, kw⟩)) (.call (.ref f) ⟨.ref (s.heap.objs.size + 1) :: vs, kw⟩) (PySem.W.InitBack (s.heap.objs.size + 1) R)
      { s with heap := (s.heap.push PySem.W.emptyDict).push (PySem.W.instObj C s.heap.objs.size) }) :
    codeAny (model prog w) A (.call (.ref C) ⟨vs, kw⟩) R s := by
  obtain ⟨hh, g, d, t, os⟩ := s
  exact PySem.W.make_core (PySem.W.makes_of X hm) (PySem.W.looks_findIn X hi) (fun self => PySem.W.bind_fn X self hf) (.inl rfl) h
end
def putF (f : Str) (v : V) : List (Str × V) → List (Str × V)
  | [] => [(f, v)]
  | (g, x) :: r => if g = f then (g, v) :: r else (g, x) :: putF f v r
theorem lookup_putF (f g : Str) (v : V) : ∀ fs : List (Str × V), (putF f v fs).lookup g = if g = f then some v else fs.lookup g
  | [] => by
    show List.lookup g [(f, v)] = _
    by_cases h : g = f
    · have hb : (g == f) = true := beq_iff_eq.mpr h
      simp only [List.lookup, hb, if_pos h]
    · have hb : (g == f) = false := beq_eq_false_iff_ne.mpr h
      simp only [List.lookup, hb, if_neg h]
  | (k, x) :: r => by
    have ih := lookup_putF f g v r
    rw [show putF f v ((k, x) :: r) = (if k = f then (k, v) :: r else (k, x) :: putF f v r) from rfl]
    by_cases hk : k = f
    · rw [if_pos hk]
      by_cases h : g = k
      · have hb : (g == k) = true := beq_iff_eq.mpr h
        simp only [List.lookup, hb, if_pos (h.trans hk)]
      · have hb : (g == k) = false := beq_eq_false_iff_ne.mpr h
        simp only [List.lookup, hb, if_neg (fun e : g = f => h (e.trans hk.symm))]
    · rw [if_neg hk]
      by_cases h : g = k
      · have hb : (g == k) = true := beq_iff_eq.mpr h
        simp only [List.lookup, hb, if_neg (fun e : g = f => hk (h.symm.trans e))]
      · have hb : (g == k) = false := beq_eq_false_iff_ne.mpr h
        simp only [List.lookup, hb]
        exact ih
theorem keys_putF (f : Str) (v : V) : ∀ fs : List (Str × V), f ∈ (putF f v fs).map (·.1) ∧ ∀ g, g ∈ fs.map (·.1) → g ∈ (putF f v fs).map (·.1)
  | [] => ⟨by simp [putF], fun g h => by simp at h⟩
  | (k, x) :: r => by
    obtain ⟨i1, i2⟩ := keys_putF f v r
    rw [show putF f v ((k, x) :: r) = (if k = f then (k, v) :: r else (k, x) :: putF f v r) from rfl]
    by_cases hk : k = f
    · rw [if_pos hk]
      subst hk
      exact ⟨by simp, fun g h => by simpa using h⟩
    · rw [if_neg hk]
      refine ⟨?_, fun g h => ?_⟩
      · rw [List.map_cons]
        exact List.mem_cons_of_mem _ i1
      · rw [List.map_cons] at h ⊢
        rcases List.mem_cons.mp h with e | e
        · exact List.mem_cons.mpr (.inl e)
        · exact List.mem_cons_of_mem _ (i2 g e)
theorem length_putF (f : Str) (v : V) : ∀ fs : List (Str × V), (putF f v fs).length ≤ fs.length + 1
  | [] => by simp [putF]
  | (k, x) :: r => by
    have ih := length_putF f v r
    rw [show putF f v ((k, x) :: r) = (if k = f then (k, v) :: r else (k, x) :: putF f v r) from rfl]
    by_cases hk : k = f
    · rw [if_pos hk, List.length_cons, List.length_cons]; omega
    · rw [if_neg hk, List.length_cons, List.length_cons]; omega
theorem RelO.some_of {v : V} {o : Option Value} (r : RelO (some v) o) : ∃ u, o = some u ∧ RelV v u := by
  cases o with
  | none => exact (show False from r).elim
  | some u => exact ⟨u, rfl, r⟩
section
variable {P : Program} {w : World} {H H' : Hp} {h h' : Heap} {a C dx : Addr} {fs fs' : List (Str × V)} {K : PySem.W.Frag}
theorem ins_get (hok : HOk P w K H h) (e : H a = some (.ins C dx fs)) : ∃ mA, ObjM h a dx C mA ∧ (∀ f, RelO (fs.lookup f) (mA f)) ∧ PySem.Within mA (fs.map (·.1)) ∧ fs.length ≤ 1000 ∧ H dx = some (.own a) := by
  obtain ⟨d, z, ne, ob, mA, n, r, q⟩ := (show ObjOk P w K H h a (.ins C dx fs) from hok a _ e)
  exact ⟨mA, ⟨ob, n, ne⟩, r, q, z, d⟩
end
structure Cls (K : PySem.W.Frag) (C : Addr) : Prop where
  pg : PySem.W.plainGet K C Str.empty = true
  hd : PySem.W.hasDictIn K C = true
  po : PySem.W.plainOver K C = true
  sa : PySem.W.findIn K (.ref C) "__setattr__" = some (some (.builtin "object.__setattr__"))
theorem Cls.get {K : PySem.W.Frag} {C : Addr} (c : Cls K C) (f : Str) : PySem.W.plainGet K C f = true := c.pg
def NoAttr (K : PySem.W.Frag) (C : Addr) (f : Str) : Prop := PySem.W.findIn K (.ref C) f = some none
theorem NoAttr.taker {K : PySem.W.Frag} {C : Addr} {f : Str} (n : NoAttr K C f) : PySem.W.takerIn K C f = some none := by
  unfold PySem.W.takerIn
  rw [show PySem.W.findIn K (.ref C) f = some none from n]
  rfl
structure Con (K : PySem.W.Frag) (C : Addr) (f : Str) (v : V) (u : Value) : Prop where
  at_ : PySem.W.findIn K (.ref C) f = some (some u)
  rel : RelV v u
  get : PySem.W.specialIn K u "__get__" = some none
  cp : PySem.W.copiedNames.contains f = false
structure Meth (K : PySem.W.Frag) (C : Addr) (m : Str) (f : Addr) : Prop where
  at_ : PySem.W.findIn K (.ref C) m = some (some (.ref f))
  fn : PySem.W.isFn K (.ref f) = true
  kp : PySem.W.keepIn K (.ref f) = true
section
variable {X : Cx} {pins : List (Addr × Obj)} {σ : St} {H : Hp} {s : Shared} {a C dx : Addr} {fs : List (Str × V)} {f : Str} {v : V} {A : Around} {E : Value → Shared → Prop}
theorem setattr_ok {y : V} {u : Value} {Q : Unit → Shared → Prop} (I : Inv X pins σ H s) (e : H a = some (.ins C dx fs)) (c : Cls X.K C) (n : NoAttr X.K C f) (hl : fs.length < 1000) (ry : RelV y u)
    (h : ∀ s', Inv X pins σ (upd H a (.ins C dx (putF f y fs))) s' → Q () s') : wpAny (model X.prog X.w) A (setAttr (.ref a) f u) Q E s := by
  obtain ⟨mA, O, r, wi, _, ho⟩ := ins_get I.hok e
  have hz : (fs.map (·.1)).length ≤ sizeLine := by rw [List.length_map, sizeLine_eq]; omega
  refine set_map I.kIn O c.sa c.po n.taker c.hd wi hz fun h' O' sb => h _ ?_
  have hd : ∃ o, h'.get? dx = some o := let ⟨o, _, _, e', _⟩ := O'.ns; ⟨o, e'⟩
  refine I.write (x := a) (e := dx) (by rw [e]; exact True.intro) (.inr ho) (fun b q hb z => (sb.2 b hb).trans z) hd ?_
  refine ⟨by rw [upd_ne O.ne]; exact ho, ?_, O.ne, O'.obj, _, O'.ns, fun g => ?_, fun g hg => ?_⟩
  · have := length_putF f y fs; omega
  · show RelO ((putF f y fs).lookup g) (if g = f then some u else mA g)
    rw [lookup_putF]
    by_cases q : g = f
    · rw [if_pos q, if_pos q]; exact ry
    · rw [if_neg q, if_neg q]; exact r g
  · by_cases q : g = f
    · rw [q]; exact (keys_putF f y fs).1
    · refine (keys_putF f y fs).2 g (wi g fun z => hg ?_)
      show (if g = f then some u else mA g) = none
      rw [if_neg q]; exact z
theorem Inv.made (I : Inv X pins σ H s) : Inv X pins σ (upd (upd H s.heap.objs.size (.own (s.heap.objs.size + 1))) (s.heap.objs.size + 1) (.ins C s.heap.objs.size []))
    { s with heap := (s.heap.push PySem.W.emptyDict).push (PySem.W.instObj C s.heap.objs.size) } := by
  have e1 : (s.heap.push PySem.W.emptyDict).get? s.heap.objs.size = some PySem.W.emptyDict := Heap.get?_push_size s.heap rfl
  have e2 : ((s.heap.push PySem.W.emptyDict).push (PySem.W.instObj C s.heap.objs.size)).get? (s.heap.objs.size + 1) = some (PySem.W.instObj C s.heap.objs.size) := by
    have := Heap.get?_push_size (s.heap.push PySem.W.emptyDict) (o := PySem.W.instObj C s.heap.objs.size) rfl
    rwa [Heap.size_push] at this
  have e3 : (s.heap.push PySem.W.emptyDict).Ns s.heap.objs.size (fun _ => none) := ⟨PySem.W.emptyDict, #[], _, e1, rfl, (fun e he => absurd he (by simp)), fun _ => rfl⟩
  have I1 := I.laid (a := s.heap.objs.size) (o := .own (s.heap.objs.size + 1)) (h' := s.heap.push PySem.W.emptyDict) (t' := s.toks) (fun b u q => Heap.get?_push_of_some _ q) (Nat.le_refl _) ⟨_, e1⟩
  refine I1.laid (a := s.heap.objs.size + 1) (o := .ins C s.heap.objs.size []) (t' := s.toks) (fun b u q => Heap.get?_push_of_some _ q) (Nat.le_of_eq (Heap.size_push _ _)) ?_
  have ne : s.heap.objs.size ≠ s.heap.objs.size + 1 := Nat.ne_of_lt (Nat.lt_succ_self _)
  refine ⟨by rw [upd_ne ne, upd_same], Nat.zero_le _, ne, e2, fun _ => none, (Heap.Ns1.of_empty e3).at fun o q => Heap.get?_push_of_some _ q, fun _ => True.intro, fun y hy => absurd rfl hy⟩
end
def sFld (K : PySem.W.Frag) (ta tv : TE) (f : Str) : TS := fun D σ H => tv σ H fun y H1 => ta σ H1 fun x H2 => ∃ a C dx fs, x = .ref a ∧ H2 a = some (.ins C dx fs) ∧ Cls K C ∧ NoAttr K C f ∧ fs.length < 1000 ∧
  D.nx σ (upd H2 a (.ins C dx (putF f y fs)))
section
variable {X : Cx} {o e value : Expr} {f : Str} {pos pos' tpos : Pos} {ta tv : TE}
theorem ps_fld (ha : PE X o ta) (hv : PE X value tv) (hs : swapsWith value (some (.Attribute o f pos')) pos.line X.env = pure false) : PS X (.Assign [.Attribute o f pos'] value pos) (sFld X.K ta tv f) := by
  intro pins s σ H D I h
  refine plainObj_wpAny_Assign_Attribute (thn (hv pins s σ H _ I h) fun u s1 ⟨y, H1, I1, ry, q⟩ => thn (ha pins s1 σ H1 _ I1 q) fun ov s2 ⟨x, H2, I2, rx, a, C, dx, fs, ex, ea, c, n, l, q2⟩ => ?_) hs
  subst ex
  obtain rfl : ov = Value.ref a := rx
  exact setattr_ok I2 ea c n l ry fun s3 I3 => ⟨σ, _, I3, q2⟩
end
section
variable {X : Cx} {pins : List (Addr × Obj)} {σ : St} {H : Hp} {s : Shared} {A : Around} {E : Value → Shared → Prop} {Q : Value → Shared → Prop} {c : Value} {b : Bool}
inductive TyOf (K : PySem.W.Frag) (H : Hp) : V → Value → Prop where
  | non : TyOf K H .non (.type "NoneType")
  | bl (x : Bool) : TyOf K H (.bl x) (.type "bool")
  | int (i : Int) : TyOf K H (.int i) (.type "int")
  | str (x : Str) : TyOf K H (.str x) (.type "str")
  | flt (x : UInt64) : TyOf K H (.flt x) (.type "float")
  | lst {a : Addr} {xs : List V} (e : H a = some (.lst xs)) : TyOf K H (.ref a) (.type "list")
  | frz {a : Addr} {o : Obj} {xs : List V} (e : H a = some (.frz o (.lst xs))) : TyOf K H (.ref a) (.type "list")
  | tup {a : Addr} {xs : List V} (e : H a = some (.tup xs)) : TyOf K H (.ref a) (.type "tuple")
  | dK {a : Addr} {kvs : List (Key × V)} (e : H a = some (.dK kvs)) : TyOf K H (.ref a) (.type "dict")
  | dT {a : Addr} {kvs : List (List Key × V)} (e : H a = some (.dT kvs)) : TyOf K H (.ref a) (.type "dict")
  | ins {a C dx : Addr} {fs : List (Str × V)} (e : H a = some (.ins C dx fs)) (cl : Cls K C) (ha : PySem.W.findIn K (.ref C) "__class__" = some (some (.builtin "object.__class__")))
      (hn : PySem.W.specialIn K (.builtin "object.__class__") "__get__" = some (some (.builtin "getset_descriptor.__get__"))) (htk : PySem.W.takesIn K (.builtin "object.__class__") = some true)
      (hm : PySem.W.mroIn K C (.type "object") = some true) : TyOf K H (.ref a) (.ref C)
theorem isinst_ok {x : V} {u t : Value} (I : Inv X pins σ H s) (rx : RelV x u) (ty : TyOf X.K H x t) (e : PySem.W.kitOne X.K t c = some b) (h : ∀ tk, Q (.bool b) { s with toks := tk }) :
    wpAny (model X.prog X.w) A (call (.builtin "isinstance") [u, c]) Q E s := by
  cases ty with
  | non => cases (show u = Value.none from rx); exact PySem.W.kia_one PySem.W.kitx_none I.kIn True.intro e (fun z => nomatch z) h
  | bl y => cases (show u = Value.bool y from rx); exact PySem.W.kia_one PySem.W.kitx_bool I.kIn True.intro e (fun z => nomatch z) h
  | int i => obtain ⟨t, q⟩ := (show ∃ t, u = Value.int i t from rx); cases q; exact PySem.W.kia_one PySem.W.kitx_int I.kIn True.intro e (fun z => nomatch z) h
  | str y => obtain ⟨t, q⟩ := (show ∃ t, u = Value.str y t from rx); cases q; exact PySem.W.kia_one PySem.W.kitx_str I.kIn True.intro e (fun z => nomatch z) h
  | flt y => obtain ⟨t, q⟩ := (show ∃ t, u = Value.float y t from rx); cases q; exact PySem.W.kia_one PySem.W.kitx_float I.kIn True.intro e (fun z => nomatch z) h
  | @lst a xs ea =>
    cases (show u = Value.ref a from rx)
    obtain ⟨_, _, n, _, h1⟩ := (show ObjOk X.prog X.w X.K H s.heap a (.lst xs) from I.hok a _ ea)
    exact PySem.W.kia_one PySem.W.kitx_list I.kIn ⟨_, h1, rfl⟩ e (fun z => nomatch z) h
  | @frz a ob xs ea =>
    cases (show u = Value.ref a from rx)
    obtain ⟨_, _, _, n, _, h1⟩ := (show ObjOk X.prog X.w X.K H s.heap a (.frz ob (.lst xs)) from I.hok a _ ea)
    exact PySem.W.kia_one PySem.W.kitx_list I.kIn ⟨_, h1, rfl⟩ e (fun z => nomatch z) h
  | @tup a xs ea =>
    cases (show u = Value.ref a from rx)
    obtain ⟨_, _, _, p⟩ := (show ObjOk X.prog X.w X.K H s.heap a (.tup xs) from I.hok a _ ea)
    obtain ⟨o, h1, h2, _⟩ := p
    exact PySem.W.kia_one PySem.W.kitx_tuple I.kIn ⟨o, h1, h2⟩ e (fun z => nomatch z) h
  | @dK a kvs ea =>
    cases (show u = Value.ref a from rx)
    obtain ⟨_, _, vs, _, p⟩ := (show ObjOk X.prog X.w X.K H s.heap a (.dK kvs) from I.hok a _ ea)
    obtain ⟨o, es, ep, h1, h2, _⟩ := p
    exact PySem.W.kia_one PySem.W.kitx_dict I.kIn ⟨o, h1, h2.1⟩ e (fun z => nomatch z) h
  | @dT a kvs ea =>
    cases (show u = Value.ref a from rx)
    obtain ⟨_, _, xs, _, o, es, ep, h1, h2, _⟩ := (show ObjOk X.prog X.w X.K H s.heap a (.dT kvs) from I.hok a _ ea)
    exact PySem.W.kia_one PySem.W.kitx_dict I.kIn ⟨o, h1, h2.1⟩ e (fun z => nomatch z) h
  | @ins a C dx fs ea cl ha hn htk hm =>
    cases (show u = Value.ref a from rx)
    obtain ⟨mA, O, _⟩ := ins_get I.hok ea
    obtain ⟨od, J, _⟩ := O.look
    exact PySem.W.kia_one (PySem.W.kitx_own (cl.get _) cl.hd ha hn htk hm) I.kIn J e (fun z => nomatch z) h
end
end L2
namespace L2
open PySem PySem.Spec PyProof.Rows
structure Room (k : Nat) (A : Around) : Prop where
  hd : A.handled = none
  dp : A.depth + 3 * k + 5 < recursionLimit
  un : A.units + 16 * k + 200 < cLine
theorem Room.mono {j k : Nat} {A : Around} (r : Room k A) (h : j ≤ k) : Room j A := ⟨r.hd, by have := r.dp; omega, by have := r.un; omega⟩
theorem Room.deeper {k : Nat} {A : Around} (r : Room (k + 1) A) (env : Env) : Room k (A.deeper env) :=
  ⟨r.hd, by have := r.dp; show A.depth + 1 + 3 * k + 5 < _; omega, by have := r.un; show A.units + 3 + 16 * k + 200 < _; omega⟩
theorem make_depth {A : Around} {C : Addr} {us : List Value} {kw : List (Str × Value)} : (A.under (.builtin "type.__call__" ⟨.ref C :: us, kw⟩)).depth = A.depth + 1 := by
  first | rfl | simp [Around.under, Code.weight, Code.isCreation, Code.isGuard, Code.isCaller, Code.frames, Code.isFrame, guardIds]
theorem make_units {A : Around} {C : Addr} {us : List Value} {kw : List (Str × Value)} : (A.under (.builtin "type.__call__" ⟨.ref C :: us, kw⟩)).units = A.units + 1 := by
  first | rfl | simp [Around.under, Code.cUnits, Code.frames, Code.isFrame]
theorem Room.make {k : Nat} {A : Around} (r : Room (k + 1) A) (C : Addr) (us : List Value) (kw : List (Str × Value)) : Room k (A.under (.builtin "type.__call__" ⟨.ref C :: us, kw⟩)) :=
  ⟨r.hd, by have := r.dp; rw [make_depth]; omega, by have := r.un; rw [make_units]; omega⟩
theorem Room.depth {k : Nat} {A : Around} (r : Room k A) : A.depth < recursionLimit := by have := r.dp; omega
theorem Room.units {k : Nat} {A : Around} (r : Room k A) : A.units + 64 < cLine := by have := r.un; omega
def tNil : TA := fun _ H Q => Q [] H
def tCons (ta : TE) (tr : TA) : TA := fun σ H Q => ta σ H fun x H1 => tr σ H1 fun xs H2 => Q (x :: xs) H2
section
variable {X : Cx} {e : Expr} {es : List Expr} {te : TE} {t : TA} {pos : Pos}
theorem pa_nil : PA X [] tNil := fun _ _ _ _ H Q I h => Calls.spliced_nil ⟨[], H, I, .nil, h⟩
theorem pa_cons (ha : PE X e te) (hr : PA X es t) (hs : starEach (e :: es) X.env = (false, eval e X.env) :: starEach es X.env := by rfl) : PA X (e :: es) (tCons te t) := by
  intro pos pins s σ H Q I h
  rw [hs]
  show wpAny _ _ (spliced ((false, eval e X.env) :: backTo pos (starEach es X.env))) _ _ s
  refine Calls.spliced_cons (thn (ha pins s σ H _ I h) fun u s1 ⟨x, H1, I1, r1, q1⟩ => ?_)
  exact thn (hr pos pins s1 σ H1 _ I1 q1) fun us s2 ⟨xs, H2, I2, r2, q2⟩ => ⟨x :: xs, H2, I2, .cons r1 r2, q2⟩
def tTup (t : TA) : TE := fun σ H Q => t σ H fun xs H1 => xs.length ≤ sizeLine ∧ ∀ p, H1 p = none → Q (.ref p) (upd H1 p (.tup xs))
def tLst (t : TA) : TE := fun σ H Q => t σ H fun xs H1 => xs.length ≤ sizeLine ∧ ∀ p, H1 p = none → Q (.ref p) (upd H1 p (.lst xs))
theorem pe_tup {x1} (h : PA X es t) : PE X (.Tuple es x1 pos) (tTup t) := by
  intro pins s σ H Q I hq
  refine wpAny_Tuple_spliced (thn (h pos pins s σ H _ I hq) fun us s1 ⟨xs, H1, I1, r, z, q⟩ => ⟨by rw [← r.length]; exact z, ?_⟩)
  have hf : H1 s1.heap.objs.size = none := I1.hok.fresh (Nat.le_refl _)
  refine ⟨.ref s1.heap.objs.size, upd H1 s1.heap.objs.size (.tup xs), I1.laid (t' := s1.toks) (fun b u e => Heap.get?_push_of_some _ e) (Nat.le_refl _) ?_, rfl, q _ hf⟩
  exact ⟨z, us, r, ⟨_, Heap.get?_push_size _ rfl, rfl, _, rfl⟩⟩
theorem pe_lst (h : PA X es t) : PE X (.List es pos) (tLst t) := by
  intro pins s σ H Q I hq
  refine wpAny_List_spliced (thn (h pos pins s σ H _ I hq) fun us s1 ⟨xs, H1, I1, r, z, q⟩ => ⟨by rw [← r.length]; exact z, ?_⟩)
  have hf : H1 s1.heap.objs.size = none := I1.hok.fresh (Nat.le_refl _)
  refine ⟨.ref s1.heap.objs.size, upd H1 s1.heap.objs.size (.lst xs), I1.laid (t' := s1.toks) (fun b u e => Heap.get?_push_of_some _ e) (Nat.le_refl _) ?_, rfl, q _ hf⟩
  exact ⟨z, us, 0, r, Heap.get?_push_size _ rfl⟩
end
abbrev Sp := List V → Hp → VK → XK → Prop
abbrev CXT := List Env → Hp → Shared → XK → Value → Shared → Prop
structure Env0 (P : Program) (w : World) (K : PySem.W.Frag) (mg : Str → Option Value) (base : Heap) (A : Around) (outer : List Env) (s : Shared) (H : Hp) : Prop where
  frames : A.frames = some outer
  mod : Mod K mg base
  bs : ∀ b o, base.get? b = some o → s.heap.get? b = some o ∧ H b = none
  bsz : base.objs.size ≤ s.heap.objs.size
  funs : s.heap.FunFrames base outer
  frf : ∀ b ∈ frs outer, H b = none
  hok : HOk P w K H s.heap
  bare : AllBare s.gens
def CE (outer : List Env) (P : Program) (w : World) (K : PySem.W.Frag) (H : Hp) (s : Shared) (Q : VK) (u : Value) (s' : Shared) : Prop :=
  ∃ v H', s'.os = s.os ∧ AllBare s'.gens ∧ Un (frs outer) [] H H' s.heap s'.heap ∧ HOk P w K H' s'.heap ∧ RelV v u ∧ Q v H'
def CR (CX : CXT) (outer : List Env) (P : Program) (w : World) (K : PySem.W.Frag) (H : Hp) (s : Shared) (Q : VK) (E : XK) (r : Result) (s' : Shared) : Prop :=
  match r with
  | .ok (.ret u) => CE outer P w K H s Q u s'
  | .ok _ => False
  | .error e => CX outer H s E e s'
structure FnOk (P : Program) (w : World) (K : PySem.W.Frag) (mg : Str → Option Value) (base : Heap) (CX : CXT) (k : Nat) (f : Addr) (fd : FuncData) (ps : List Str) (sp : Sp) : Prop where
  len : ∀ vs H Q E, sp vs H Q E → vs.length = ps.length
  run : ∀ (A : Around) (outer : List Env) (s : Shared) (H : Hp) (args : Args) (us : List Value) (vs : List V) (Q : VK) (E : XK), Room k A → Env0 P w K mg base A outer s H → BindsTo s fd args (ps.zip us) → Vals vs us → sp vs H Q E →
    codeAny (model P w) A (.call (.ref f) args) (CR CX outer P w K H s Q E) s
theorem Env0.make {P : Program} {w : World} {K : PySem.W.Frag} {mg : Str → Option Value} {base : Heap} {A : Around} {outer : List Env} {s : Shared} {H : Hp} (e : Env0 P w K mg base A outer s H) (C : Addr) (us : List Value) (kw : List (Str × Value)) :
    Env0 P w K mg base (A.under (.builtin "type.__call__" ⟨.ref C :: us, kw⟩)) outer s H := ⟨by first | exact e.frames | (simpa [Around.under, Code.envs, Code.isFrame, pushEnvs] using e.frames), e.mod, e.bs, e.bsz, e.funs, e.frf, e.hok, e.bare⟩
section
variable {X : Cx} {pins : List (Addr × Obj)} {σ : St} {H : Hp} {s s' : Shared}
theorem Inv.env0 (I : Inv X pins σ H s) : Env0 X.prog X.w X.K X.mg X.base X.A X.stack s H :=
  ⟨I.ok.frames, I.ok.mod, I.bs, Nat.le_trans I.ok.bsz I.sz, I.stack, I.stkFree, I.hok, I.bare⟩
theorem Inv.after {Q : VK} {u : Value} (I : Inv X pins σ H s) (h : CE X.stack X.prog X.w X.K H s Q u s') : EP X pins σ Q u s' := by
  obtain ⟨v, H', os, bare, un, hok, r, q⟩ := h
  obtain ⟨hh, g, d, t, os'⟩ := s'
  obtain rfl : os' = s.os := os
  exact ⟨v, H', I.call (h' := hh) (g' := g) (d' := d) (t' := t) (ch := []) un hok bare (fun b z => absurd z (by simp)), r, q⟩
end
def tCall (sp : Sp) (dvs : List V) (E : XK) (t : TA) : TE := fun σ H Q => t σ H fun vs H1 => sp (vs ++ dvs) H1 Q E
def Binds (K : PySem.W.Frag) (fd : FuncData) (ps : List Str) (ds : List Value) : Prop :=
  ∀ (s : Shared) (us : List Value), K.In s.heap → (us ++ ds).length = ps.length → BindsTo s fd ⟨us, []⟩ (ps.zip (us ++ ds))
theorem Binds.all {K : PySem.W.Frag} {fd : FuncData} {ps : List Str} (h : ∀ us : List Value, us.length = ps.length → bindArgs fd ⟨us, []⟩ = pure (ps.zip us)) : Binds K fd ps [] := fun s us _ hl => by
  rw [List.append_nil] at hl ⊢
  exact .of_eq (h us hl)
def Passes (CX : CXT) (X : Cx) (E : XK) : Prop := ∀ (pins : List (Addr × Obj)) (σ : St) (H : Hp) (s : Shared) (e : Value) (s' : Shared), Inv X pins σ H s → CX X.stack H s E e s' → X.xe e s'
section
variable {X : Cx} {CX : CXT} {k : Nat} {f C : Addr} {fd : FuncData} {ps : List Str} {sp : Sp} {dvs : List V} {ds : List Value} {E : XK} {x m : Str} {p pos apos : Pos} {e o : Expr} {es : List Expr} {ta : TE} {t : TA}
theorem run_fn {pins : List (Addr × Obj)} {σ : St} {H : Hp} {s : Shared} {Q : VK} {us : List Value} {vs : List V} (F : FnOk X.prog X.w X.K X.mg X.base CX k f fd ps sp) (hr : Room k X.A) (hb : Binds X.K fd ps ds) (hd : Vals dvs ds) (hx : Passes CX X E)
    (I : Inv X pins σ H s) (r : Vals vs us) (h : sp (vs ++ dvs) H Q E) : wpAny (model X.prog X.w) X.A (call (.ref f) us) (EP X pins σ Q) X.xe s := by
  have r2 : Vals (vs ++ dvs) (us ++ ds) := r.append hd
  have hl : (us ++ ds).length = ps.length := by rw [← r2.length]; exact F.len _ _ _ _ h
  refine wpAny_call (codeAny_mono (F.run X.A X.stack s H ⟨us, []⟩ (us ++ ds) (vs ++ dvs) Q E hr I.env0 (hb s us I.kIn hl) r2 h) fun r s' hq => ?_)
  cases r with
  | error e => exact hx pins σ H s e s' I hq
  | ok fl =>
    cases fl with
    | ret u => exact I.after hq
    | next => exact False.elim hq
    | brk => exact False.elim hq
    | cont => exact False.elim hq
theorem pe_call (F : FnOk X.prog X.w X.K X.mg X.base CX k f fd ps sp) (hr : Room k X.A) (hg : Gl X x) (hm : X.mg x = some (.ref f)) (hk : PySem.W.keepIn X.K (.ref f) = true) (hb : Binds X.K fd ps ds) (hd : Vals dvs ds) (hx : Passes CX X E)
    (ha : PA X (e :: es) t) (hdb : (x == ("__debug__" : Str)) = false := by decide) (he : starEach (e :: es) X.env = (false, eval e X.env) :: starEach es X.env := by rfl) (hpl : (backTo pos (starEach es X.env)).any (·.1) = false := by rfl) :
    PE X (.Call (.Name x p) (e :: es) [] pos) (tCall sp dvs E t) := by
  intro pins s σ H Q I h
  refine wpAny_Call_Name_kw (ld_glob I hg hm ?_ hdb)
  refine PySem.W.callWith_K (h₀ := X.base) I.ok.mod.kin hk (thn (ha pos pins s σ H _ I h) fun us s1 ⟨vs, H1, I1, r, q⟩ => ⟨I1.kIn, ?_⟩) he hpl
  exact run_fn F hr hb hd hx I1 r q
structure Mk (K : PySem.W.Frag) (C f : Addr) : Prop where
  makes : PySem.W.makesIn K C = true
  init : PySem.W.findIn K (.ref C) "__init__" = some (some (.ref f))
  fn : PySem.W.isFn K (.ref f) = true
  kp : PySem.W.keepIn K (.ref C) = true
end
section
variable {X : Cx} {CX : CXT} {k : Nat} {f C : Addr} {fd : FuncData} {ps ks : List Str} {sp : Sp} {E : XK} {x m : Str} {p pos apos kpos : Pos} {e o : Expr} {es : List Expr} {kws : List Keyword} {te ta : TE} {t tk : TA} {nm : Option Str}
structure KBinds (K : PySem.W.Frag) (fd : FuncData) (ps ks : List Str) (g : List Value → List Value → List Value) (gV : List V → List V → List V) : Prop where
  to : ∀ (s : Shared) (us ws : List Value), K.In s.heap → (g us ws).length = ps.length → BindsTo s fd ⟨us, ks.zip ws⟩ (ps.zip (g us ws))
  rel : ∀ {vs : List V} {us : List Value} {zs : List V} {ws : List Value}, Vals vs us → Vals zs ws → Vals (gV vs zs) (g us ws)
variable {g : List Value → List Value → List Value} {gV : List V → List V → List V}
end
structure FnScope (N P : List Str) (sc : Scope) : Prop where
  kind : sc.kind = .function
  co : sc.isCoroutine = false
  gen : sc.isGenerator = false
  nd : N.Nodup
  pre : N.take P.length = P
  par : ∀ x ∈ P, sc.names.lookup x = some .local ∨ sc.names.lookup x = some .cell
  nofree : ∀ y ∈ sc.names, y.2 ≠ .free
theorem bindL_out {kindOf : Str → Option NameKind} {x : Str} : ∀ {binds : List (Str × Value)} {m : Str → Option Value}, (∀ v, (x, v) ∉ binds) → bindL kindOf binds m x = m x
  | [], _, _ => rfl
  | (n, v) :: r, m, h => by
    unfold bindL
    rw [bindL_out fun w hw => h w (List.mem_cons_of_mem _ hw)]
    split
    · have : x ≠ n := by rintro rfl; exact h v List.mem_cons_self
      simp [this]
    · rfl
theorem bindC_out {kindOf : Str → Option NameKind} {x : Str} : ∀ {binds : List (Str × Value)} {m : Str → Option Value}, (∀ v, (x, v) ∉ binds) → bindC kindOf binds m x = m x
  | [], _, _ => rfl
  | (n, v) :: r, m, h => by
    unfold bindC
    rw [bindC_out fun w hw => h w (List.mem_cons_of_mem _ hw)]
    split
    · rfl
    · have : x ≠ n := by rintro rfl; exact h v List.mem_cons_self
      simp [this]
theorem bindL_get {kindOf : Str → Option NameKind} {x : Str} {v : Value} : ∀ {P : List Str} {vs : List Value} {i : Nat} {m : Str → Option Value}, P.Nodup → P[i]? = some x → vs[i]? = some v → kindOf x = some .local →
    bindL kindOf (P.zip vs) m x = some v
  | [], _, _, _, _, h, _, _ => by simp at h
  | _ :: _, [], _, _, _, _, h, _ => by simp at h
  | p :: P, w :: vs, 0, m, nd, h1, h2, hk => by
    simp at h1 h2; subst h1; subst h2
    show bindL kindOf ((p, w) :: P.zip vs) m p = _
    unfold bindL
    rw [bindL_out fun v hv => (List.nodup_cons.mp nd).1 (List.of_mem_zip hv).1, if_pos hk]
    simp
  | p :: P, w :: vs, i + 1, m, nd, h1, h2, hk => by
    show bindL kindOf ((p, w) :: P.zip vs) m x = _
    unfold bindL
    exact bindL_get (i := i) (List.nodup_cons.mp nd).2 (by simpa using h1) (by simpa using h2) hk
theorem bindC_get {kindOf : Str → Option NameKind} {x : Str} {v : Value} : ∀ {P : List Str} {vs : List Value} {i : Nat} {m : Str → Option Value}, P.Nodup → P[i]? = some x → vs[i]? = some v → kindOf x ≠ some .local →
    bindC kindOf (P.zip vs) m x = some v
  | [], _, _, _, _, h, _, _ => by simp at h
  | _ :: _, [], _, _, _, _, h, _ => by simp at h
  | p :: P, w :: vs, 0, m, nd, h1, h2, hk => by
    simp at h1 h2; subst h1; subst h2
    show bindC kindOf ((p, w) :: P.zip vs) m p = _
    unfold bindC
    rw [bindC_out fun v hv => (List.nodup_cons.mp nd).1 (List.of_mem_zip hv).1, if_neg hk]
    simp
  | p :: P, w :: vs, i + 1, m, nd, h1, h2, hk => by
    show bindC kindOf ((p, w) :: P.zip vs) m x = _
    unfold bindC
    exact bindC_get (i := i) (List.nodup_cons.mp nd).2 (by simpa using h1) (by simpa using h2) hk
def start (N : List Str) (vs : List V) : St := vs.map some ++ List.replicate (N.length - vs.length) none
def cxOf (CX : CXT) (P : Program) (w : World) (K : PySem.W.Frag) (mg : Str → Option Value) (base : Heap) (N : List Str) (qual : Str) (scope : Scope) (f : Addr) (cd : Value) (A : Around) (outer : List Env) (s : Shared) (H : Hp) (E : XK) : Cx where
  prog := P
  w := w
  K := K
  mg := mg
  base := base
  A := A.deeper (envOfC qual scope s.heap.objs.size f cd)
  N := N
  s₀ := s
  H₀ := H
  env := envOfC qual scope s.heap.objs.size f cd
  outer := outer
  stack := envOfC qual scope s.heap.objs.size f cd :: outer
  ex := []
  calm := true
  fn := fun _ => true
  pn := []
  xe := fun e s' => wpAny (model P w) (A.deeper (envOfC qual scope s.heap.objs.size f cd)) (leaving (envOfC qual scope s.heap.objs.size f cd) e) (fun _ s'' => CX outer H s E e s'') (fun e' s'' => CX outer H s E e' s'') s'
theorem cell_has {sc : Scope} {n : Nat} {x : Str} (h : sc.names.lookup x = some .cell) : ∃ c, (cellsFrom n sc.names []).lookup x = some c := by
  have q := PySem.W.cellsFrom_some sc.names n [] (.inl h)
  exact Option.isSome_iff_exists.mp q
theorem inv_start {CX : CXT} {P : Program} {w : World} {K : PySem.W.Frag} {mg : Str → Option Value} {base : Heap} {N ps : List Str} {qual : Str} {scope : Scope} {f : Addr} {cd : Value} {A : Around} {outer : List Env} {s s1 : Shared} {H : Hp} {E : XK} {us : List Value} {vs : List V}
    (S : FnScope N ps scope) (hd : A.handled = none) (e0 : Env0 P w K mg base A outer s H) (hl : vs.length = ps.length) (r : Vals vs us)
    (x : InCallC s s.heap.objs.size (bindL (envOfC qual scope s.heap.objs.size f cd).kindOf (ps.zip us) fun _ => none) (cellsFrom (s.heap.objs.size + 1) scope.names []) (bindC (envOfC qual scope s.heap.objs.size f cd).kindOf (ps.zip us) fun _ => none) s1) :
    Inv (cxOf CX P w K mg base N qual scope f cd A outer s H E) [] (start N vs) H s1 := by
  have hpl : ps.length ≤ N.length := by have := congrArg List.length S.pre; rw [List.length_take] at this; omega
  obtain ⟨h1, tk, rfl, hk⟩ := x.done
  have noA : ∀ b : Addr, b ∉ (cxOf CX P w K mg base N qual scope f cd A outer s H E).ex := fun b z => absurd (show b ∈ ([] : List Addr) from z) (by simp)
  refine ⟨⟨e0.mod, S.kind, rfl, rfl, Nat.le_refl _, fun y z c h1 h2 => ?_, fun y hy => ?_, fun y c _ h => ?_, fun _ => hd, Around.frames_deeper e0.frames, .inr ⟨rfl, rfl⟩, fun b z => absurd z (noA b), e0.bs, e0.bsz, fun b _ _ => noA b, fun b z => absurd z (noA b), e0.funs, e0.frf⟩,
    rfl, e0.bare, Un.kept hk, ⟨_, x.toInCall.ns, fun i y v h1 h2 h3 => ?_⟩, fun y c h => ⟨_, x.cell y c h⟩, e0.hok.fresh (Nat.le_refl _), fun y c h => ?_, fun p hp => absurd (show p ∈ ([] : List (Addr × Obj)) from hp) (by simp), e0.hok.kept hk, ?_⟩
  · exact name_of_addr x.apart (PySem.mem_of_lookup h1) (PySem.mem_of_lookup h2)
  · have hy : scope.names.lookup y = some .cell ∨ scope.names.lookup y = some .free := hy
    rcases hy with hy | hy
    · exact cell_has hy
    · exact absurd rfl (S.nofree _ (PySem.mem_of_lookup hy))
  · exact Nat.le_of_lt (x.above y c (PySem.mem_of_lookup h))
  · have hi : i < vs.length := by
      unfold start at h2
      by_cases hi : i < vs.length
      · exact hi
      · rw [List.getElem?_append_right (by simpa using hi)] at h2
        rw [List.getElem?_replicate] at h2
        split at h2 <;> cases h2
    have ha : vs[i]? = some v := by
      unfold start at h2
      rw [List.getElem?_append_left (by simpa using hi), List.getElem?_map] at h2
      cases e : vs[i]? with
      | none => rw [e] at h2; cases h2
      | some a => rw [e] at h2; cases h2; rfl
    obtain ⟨u, hu, rv⟩ := r.get ha
    have hp : ps[i]? = some y := by
      rw [← S.pre, List.getElem?_take_of_lt (by omega)]; exact h1
    have ndP : ps.Nodup := by rw [← S.pre]; exact S.nd.sublist (List.take_sublist _ _)
    refine ⟨u, rv, ?_⟩
    rcases S.par y (List.mem_of_getElem? hp) with k | k
    · exact .inl ⟨k, bindL_get ndP hp hu k⟩
    · obtain ⟨c, e⟩ := cell_has (n := s.heap.objs.size + 1) k
      refine .inr ⟨.inl k, c, e, ?_⟩
      have q := x.cell y c e
      rw [bindC_get ndP hp hu (by show scope.names.lookup y ≠ _; rw [k]; decide)] at q
      exact q
  · exact e0.hok.fresh (Nat.le_of_lt (x.above y c (PySem.mem_of_lookup h)))
  · unfold start
    show _ = N.length
    rw [List.length_append, List.length_map, List.length_replicate]
    omega
theorem fn_of {CX : CXT} {P : Program} {w : World} {K : PySem.W.Frag} {mg : Str → Option Value} {base : Heap} {k : Nat} {f : Addr} {name qual : Str} {params : Arguments} {body : List Stmt} {scope : Scope} {dV kV doc pm cdv ct oc : Value} {an od : Option Addr}
    {osl : Array (Option Value)} {N ps : List Str} {sp : Sp} (lk : K.lookup f = some ⟨oc, od, .func (PySem.W.fnOf name qual params body scope dV kV doc pm an cdv ct), osl⟩) (hcd : PySem.W.codeIn K cdv qual = true) (S : FnScope N ps scope)
    (len : ∀ vs H Q E, sp vs H Q E → vs.length = ps.length)
    (hbody : ∀ (A : Around) (outer : List Env) (s : Shared) (H : Hp) (vs : List V) (Q : VK) (E : XK), Room k (A.deeper (envOfC qual scope s.heap.objs.size f cdv)) → sp vs H Q E →
      ∃ t, PSs (cxOf CX P w K mg base N qual scope f cdv A outer s H E) body t ∧ t { nx := fun _ H' => Q .non H', rt := Q } (start N vs) H) :
    FnOk P w K mg base CX (k + 1) f (PySem.W.fnOf name qual params body scope dV kV doc pm an cdv ct) ps sp := by
  refine ⟨len, fun A outer s H args us vs Q E hr e0 hb r hsp => ?_⟩
  have hl := len _ _ _ _ hsp
  have KX : K.In s.heap := e0.mod.kin.keeps fun b o e => (e0.bs b o e).1
  have lim : s.heap.NoLimit := e0.mod.nolimit.keeps fun b o e => (e0.bs b o e).1
  have hkind : ∀ y ∈ ps.zip us, scope.names.lookup y.1 = some .local ∨ (scope.names.lookup y.1 = some .cell ∧ ((cellsFrom (s.heap.objs.size + 1) scope.names []).lookup y.1).isSome = true) := fun ⟨n, v⟩ hy => by
    rcases S.par n (List.of_mem_zip hy).1 with q | q
    · exact .inl q
    · exact .inr ⟨q, PySem.W.cellsFrom_some _ _ _ (.inl q)⟩
  refine codeAny_call_function hr.depth (KX _ _ lk) rfl S.co S.gen rfl (PySem.W.codeRec_of KX hcd) (hb _ _ _ _ ?_)
  refine wpAny_newFunctionEnv_cells S.kind hkind fun env he s1 x => ?_
  subst he
  refine ⟨lim.keeps x.toInCall.keep, codeAny_func ?_⟩
  obtain ⟨t, ht, hq⟩ := hbody A outer s H vs Q E (hr.deeper _) hsp
  have I : Inv (cxOf CX P w K mg base N qual scope f cdv A outer s H E) [] (start N vs) H s1 := inv_start S hr.hd e0 hl r x
  refine wpAny_mono (ht [] s1 (start N vs) H _ I hq) (fun fl s' hs => ?_) fun e s' hs => hs
  have fin : ∀ {σ' : St} {H' : Hp} {v : V} {u : Value}, Inv (cxOf CX P w K mg base N qual scope f cdv A outer s H E) [] σ' H' s' → RelV v u → Q v H' → CE outer P w K H s Q u s' :=
    fun {σ' H' v u} J rv q => ⟨v, H', J.os, J.bare, J.base, J.hok, rv, q⟩
  cases fl with
  | ret u =>
    obtain ⟨v, σ', H', J, rv, q⟩ := hs
    exact fin J rv q
  | next =>
    obtain ⟨σ', H', J, q⟩ := hs
    exact fin (v := V.non) (u := Value.none) J rfl q
  | brk =>
    obtain ⟨_, _, _, q⟩ := hs
    exact False.elim q
  | cont =>
    obtain ⟨_, _, _, q⟩ := hs
    exact False.elim q
end L2
namespace L2
open PySem PySem.Spec PyProof.Rows
section
variable {X : Cx} {x : Str} {p pos : Pos} {e : Expr} {es : List Expr} {t : TA} {id T : String} {r : List V → Hp → VK → Prop}
def tCB (r : List V → Hp → VK → Prop) (t : TA) : TE := fun σ H Q => t σ H fun vs H1 => r vs H1 Q
theorem pe_callB (hc : CallR X (.builtin id) r) (hg : Gl X x) (hm : X.mg x = none) (hv : bootBuiltins x = some (.builtin id)) (ha : PA X (e :: es) t) (hn : x ≠ "__name__" := by decide) (hdb : (x == ("__debug__" : Str)) = false := by decide)
    (he : starEach (e :: es) X.env = (false, eval e X.env) :: starEach es X.env := by rfl) (hpl : (backTo pos (starEach es X.env)).any (·.1) = false := by rfl) : PE X (.Call (.Name x p) (e :: es) [] pos) (tCB r t) := by
  intro pins s σ H Q I h
  refine wpAny_Call_Name_kw (ld_blt I hg hm hv ?_ hn hdb)
  exact PyProof.Rows.callWith_builtin1 (thn (ha pos pins s σ H _ I h) fun us s1 ⟨vs, H1, I1, r1, q1⟩ => hc pins s1 σ H1 vs us Q I1 r1 q1) he hpl
theorem pe_callTy (hc : CallR X (.type T) r) (hg : Gl X x) (hm : X.mg x = none) (hv : bootBuiltins x = some (.type T)) (ha : PA X (e :: es) t) (hn : x ≠ "__name__" := by decide) (hdb : (x == ("__debug__" : Str)) = false := by decide)
    (he : starEach (e :: es) X.env = (false, eval e X.env) :: starEach es X.env := by rfl) (hpl : (backTo pos (starEach es X.env)).any (·.1) = false := by rfl) : PE X (.Call (.Name x p) (e :: es) [] pos) (tCB r t) := by
  intro pins s σ H Q I h
  refine wpAny_Call_Name_kw (ld_blt I hg hm hv ?_ hn hdb)
  exact PyProof.Rows.callWith_type1 (thn (ha pos pins s σ H _ I h) fun us s1 ⟨vs, H1, I1, r1, q1⟩ => hc pins s1 σ H1 vs us Q I1 r1 q1) he hpl
end
end L2
namespace L2
open PySem PySem.Spec PyProof.Rows
section
variable {κ : Type} [DecidableEq κ]
def valV (kvs : List (κ × V)) (k : κ) : Option V := (kvs.find? fun kv => decide (kv.1 = k)).map (·.2)
def putK (kvs : List (κ × V)) (k : κ) (v : V) : List (κ × V) :=
  if (kvs.any fun kv => decide (kv.1 = k)) = true then kvs.map (fun kv => if kv.1 = k then (kv.1, v) else kv) else kvs ++ [(k, v)]
theorem valV_pos {p : κ × V} {r : List (κ × V)} {k : κ} (e : p.1 = k) : valV (p :: r) k = some p.2 := by simp [valV, List.find?_cons, e]
theorem valV_neg {p : κ × V} {r : List (κ × V)} {k : κ} (e : ¬ p.1 = k) : valV (p :: r) k = valV r k := by simp [valV, List.find?_cons, e]
theorem valV_any (k : κ) : ∀ kvs : List (κ × V), (kvs.any fun kv => decide (kv.1 = k)) = (valV kvs k).isSome
  | [] => rfl
  | p :: r => by
    rw [List.any_cons]
    by_cases e : p.1 = k
    · simp only [valV_pos e, decide_eq_true e, Bool.true_or, Option.isSome_some]
    · rw [valV_neg e, decide_eq_false e, Bool.false_or]; exact valV_any k r
theorem length_putK (kvs : List (κ × V)) (k : κ) (v : V) : (putK kvs k v).length ≤ kvs.length + 1 := by
  unfold putK
  split
  · rw [List.length_map]; omega
  · rw [List.length_append, List.length_cons, List.length_nil]; omega
theorem RelO.isSome_eq {o : Option V} {u : Option Value} (r : RelO o u) : o.isSome = u.isSome := by
  cases o with
  | none => cases u with
    | none => rfl
    | some _ => exact (show False from r).elim
  | some _ => cases u with
    | none => exact (show False from r).elim
    | some _ => rfl
theorem KV.val {kvs : List (κ × V)} {vs : List (κ × Value)} (r : KV kvs vs) (k : κ) : RelO (valV kvs k) (valueAt vs k) := by
  unfold KV at r
  induction r with
  | nil => exact True.intro
  | @cons p q ps qs h t ih =>
    obtain ⟨h1, h2⟩ := h
    by_cases e : p.1 = k
    · have e' : q.1 = k := h1.symm.trans e
      have b : valueAt (q :: qs) k = some q.2 := by simp [valueAt, List.find?_cons, e']
      rw [valV_pos e, b]; exact h2
    · have e' : ¬ q.1 = k := fun z => e (h1.trans z)
      have b : valueAt (q :: qs) k = valueAt qs k := by simp [valueAt, List.find?_cons, e']
      rw [valV_neg e, b]; exact ih
theorem KV.any {kvs : List (κ × V)} {vs : List (κ × Value)} (r : KV kvs vs) (k : κ) : (kvs.any fun kv => decide (kv.1 = k)) = vs.any fun kv => decide (kv.1 = k) := by
  unfold KV at r
  induction r with
  | nil => rfl
  | cons h t ih => rw [List.any_cons, List.any_cons, ih, h.1]
theorem KV.repl {kvs : List (κ × V)} {vs : List (κ × Value)} (r : KV kvs vs) (k : κ) {y : V} {u : Value} (ry : RelV y u) :
    KV (kvs.map fun kv => if kv.1 = k then (kv.1, y) else kv) (vs.map fun kv => if kv.1 = k then (kv.1, u) else kv) := by
  unfold KV at r ⊢
  induction r with
  | nil => exact .nil
  | @cons p q ps qs h t ih =>
    rw [List.map_cons, List.map_cons]
    refine .cons ?_ ih
    obtain ⟨h1, h2⟩ := h
    by_cases e : p.1 = k
    · rw [if_pos e, if_pos (h1.symm.trans e)]; exact ⟨h1, ry⟩
    · rw [if_neg e, if_neg (fun z => e (h1.trans z))]; exact ⟨h1, h2⟩
theorem KV.put {kvs : List (κ × V)} {vs : List (κ × Value)} (r : KV kvs vs) (k : κ) {y : V} {u : Value} (ry : RelV y u) : KV (putK kvs k y) (stored vs k u) := by
  unfold putK stored
  rw [r.any k]
  by_cases e : (vs.any fun kv => decide (kv.1 = k)) = true
  · rw [if_pos e, if_pos e]; exact r.repl k ry
  · rw [if_neg e, if_neg e]; exact Paired.snoc r ⟨rfl, ry⟩
theorem KV.length {kvs : List (κ × V)} {vs : List (κ × Value)} (r : KV kvs vs) : kvs.length = vs.length := Paired.length r
end
theorem kV_is {P : Program} {w : World} {k : Key} {u : Value} (r : RelV (kV k) u) : (mixKind P w).is k u = true := by
  cases k with
  | inl i => obtain ⟨t, e⟩ := (show ∃ t, u = Value.int i t from r); subst e; exact mixKind_int P w i t
  | inr x => obtain ⟨t, e⟩ := (show ∃ t, u = Value.str x t from r); subst e; exact mixKind_str P w x t
theorem items_are {P : Program} {w : World} : ∀ {ks : List Key} {us : List Value}, Vals (ks.map kV) us → ItemsAre (mixKind P w) ks us
  | [], _, r => by rw [List.map_nil] at r; cases r; exact .nil
  | k :: ks, _, r => by
    rw [List.map_cons] at r
    cases r with
    | cons h t => exact .cons (kV_is h) (items_are t)
abbrev KT (K : PySem.W.Frag) (H : Hp) : List (List Key × V) → List (List Key × Addr × Value) → Prop := Paired fun p q => p.1 = q.1 ∧ TupAt K H q.2.1 (p.1.map kV) ∧ RelV p.2 q.2.2
theorem KT.val {K : PySem.W.Frag} {H : Hp} {kvs : List (List Key × V)} {xs : List (List Key × Addr × Value)} (r : KT K H kvs xs) (k : List Key) : RelO (valV kvs k) ((atKey xs k).map (·.2)) := by
  induction r with
  | nil => exact True.intro
  | @cons p q ps qs h t ih =>
    obtain ⟨h1, _, h2⟩ := h
    by_cases e : p.1 = k
    · have e' : q.1 = k := h1.symm.trans e
      have b : atKey (q :: qs) k = some q.2 := by simp [atKey, List.find?_cons, e']
      rw [valV_pos e, b]; exact h2
    · have e' : ¬ q.1 = k := fun z => e (h1.trans z)
      have b : atKey (q :: qs) k = atKey qs k := by simp [atKey, List.find?_cons, e']
      rw [valV_neg e, b]; exact ih
theorem KT.repl {K : PySem.W.Frag} {H : Hp} {kvs : List (List Key × V)} {xs : List (List Key × Addr × Value)} (r : KT K H kvs xs) (k : List Key) {y : V} {u : Value} (ry : RelV y u) :
    KT K H (kvs.map fun kv => if kv.1 = k then (kv.1, y) else kv) (xs.map (putAt k u)) := by
  induction r with
  | nil => exact .nil
  | @cons p q ps qs h t ih =>
    rw [List.map_cons, List.map_cons]
    refine .cons ?_ ih
    obtain ⟨h1, h2, h3⟩ := h
    unfold putAt
    by_cases e : p.1 = k
    · rw [if_pos e, if_pos (h1.symm.trans e)]; exact ⟨h1, h2, ry⟩
    · rw [if_neg e, if_neg (fun z => e (h1.trans z))]; exact ⟨h1, h2, h3⟩
theorem KT.put {K : PySem.W.Frag} {H : Hp} {kvs : List (List Key × V)} {xs : List (List Key × Addr × Value)} (r : KT K H kvs xs) (k : List Key) {b : Addr} {y : V} {u : Value} (hb : TupAt K H b (k.map kV)) (ry : RelV y u) :
    KT K H (putK kvs k y) (storedH xs k b u) := by
  have e : (kvs.any fun kv => decide (kv.1 = k)) = (atKey xs k).isSome := by
    rw [valV_any, (r.val k).isSome_eq, Option.isSome_map]
  unfold putK storedH
  rw [e]
  by_cases q : (atKey xs k).isSome = true
  · rw [if_pos q, if_pos q]; exact r.repl k ry
  · rw [if_neg q, if_neg q]; exact Paired.snoc r ⟨rfl, hb, ry⟩
theorem KT.keeps {K : PySem.W.Frag} {H H' : Hp} {kvs : List (List Key × V)} {xs : List (List Key × Addr × Value)} (r : KT K H kvs xs) (ht : ∀ b ys, H b = some (.tup ys) → H' b = some (.tup ys)) : KT K H' kvs xs :=
  Paired.mapP r fun _ _ z => ⟨z.1, z.2.1.mono ht, z.2.2⟩
section
variable {P : Program} {w : World} {H : Hp} {h : Heap} {a : Addr} {K : PySem.W.Frag}
theorem rd_of {u : HO} (ok : HOk P w K H h) (e : Rd H a u) : ObjOk P w K H h a u := e.ok ok
theorem dk_rd {kvs : List (Key × V)} (ok : HOk P w K H h) (e : Rd H a (.dK kvs)) : kvs.length ≤ sizeLine ∧ (a == sysModules) = false ∧ ∃ vs, KV kvs vs ∧ h.DictOf (mixKind P w) a vs :=
  show ObjOk P w K H h a (.dK kvs) from rd_of ok e
theorem dk_of {kvs : List (Key × V)} (ok : HOk P w K H h) (e : H a = some (.dK kvs)) : kvs.length ≤ sizeLine ∧ (a == sysModules) = false ∧ ∃ vs, KV kvs vs ∧ h.DictOf (mixKind P w) a vs := dk_rd ok (.inl e)
theorem key_of {ks : List Key} (kin : K.In h) (ok : HOk P w K H h) (e : TupAt K H a (ks.map kV)) : (tupleKind (mixKind P w)).is h ks a := by
  rcases e with e | ⟨o, its, n, hk, hc, hd, _, r⟩
  · obtain ⟨_, its, r, o, h1, h2, n, h3⟩ := (show ObjOk P w K H h a (.tup (ks.map kV)) from ok a _ e)
    exact ⟨o, its.toArray, n, h1, h2, h3, by simpa using items_are r⟩
  · exact ⟨o, its, n, kin _ _ hk, hc, hd, by simpa using items_are r⟩
theorem dt_rd {kvs : List (List Key × V)} (kin : K.In h) (ok : HOk P w K H h) (e : Rd H a (.dT kvs)) : kvs.length ≤ sizeLine ∧ (a == sysModules) = false ∧
    ∃ xs, KT K H kvs xs ∧ h.DictOfH (tupleKind (mixKind P w)) a xs := by
  obtain ⟨z, y, xs, r, o, es, ep, h1, h2, h3, h4, h5⟩ := (show ObjOk P w K H h a (.dT kvs) from rd_of ok e)
  refine ⟨z, y, xs, r, o, es, ep, h1, h2, h3, h4, fun x hx => ?_, h5⟩
  have all : ∀ {l : List (List Key × V)} {m : List (List Key × Addr × Value)}, KT K H l m → ∀ x ∈ m, (tupleKind (mixKind P w)).is h x.1 x.2.1 := by
    intro l m q
    induction q with
    | nil => intro x hx; exact nomatch hx
    | @cons p q ps qs hq t ih =>
      intro x hx
      rcases List.mem_cons.mp hx with e | hx
      · subst e
        exact key_of kin ok (by rw [← hq.1]; exact hq.2.1)
      · exact ih x hx
  exact all r x hx
theorem dt_of {kvs : List (List Key × V)} (kin : K.In h) (ok : HOk P w K H h) (e : H a = some (.dT kvs)) : kvs.length ≤ sizeLine ∧ (a == sysModules) = false ∧
    ∃ xs, KT K H kvs xs ∧ h.DictOfH (tupleKind (mixKind P w)) a xs := dt_rd kin ok (.inl e)
end
def DGet (K : PySem.W.Frag) (H : Hp) (a : Addr) (y : V) (r : Option V) : Prop :=
  (∃ kvs k, Rd H a (.dK kvs) ∧ y = kV k ∧ r = valV kvs k) ∨ ∃ kvs k b, Rd H a (.dT kvs) ∧ y = .ref b ∧ TupAt K H b (k.map kV) ∧ r = valV kvs k
def DPut (K : PySem.W.Frag) (H : Hp) (a : Addr) (y v : V) (H' : Hp) : Prop :=
  (∃ kvs k, H a = some (.dK kvs) ∧ y = kV k ∧ kvs.length < sizeLine ∧ H' = upd H a (.dK (putK kvs k v))) ∨
  ∃ kvs k b, H a = some (.dT kvs) ∧ y = .ref b ∧ TupAt K H b (k.map kV) ∧ kvs.length < sizeLine ∧ H' = upd H a (.dT (putK kvs k v))
theorem DGet.k {K : PySem.W.Frag} {H : Hp} {a : Addr} {kvs : List (Key × V)} {k : Key} (e : H a = some (.dK kvs)) : DGet K H a (kV k) (valV kvs k) := .inl ⟨kvs, k, .inl e, rfl, rfl⟩
theorem DGet.t {K : PySem.W.Frag} {H : Hp} {a b : Addr} {kvs : List (List Key × V)} {k : List Key} (e : H a = some (.dT kvs)) (eb : TupAt K H b (k.map kV)) : DGet K H a (.ref b) (valV kvs k) := .inr ⟨kvs, k, b, .inl e, rfl, eb, rfl⟩
theorem DPut.k {K : PySem.W.Frag} {H : Hp} {a : Addr} {kvs : List (Key × V)} {k : Key} {v : V} (e : H a = some (.dK kvs)) (hl : kvs.length < sizeLine) : DPut K H a (kV k) v (upd H a (.dK (putK kvs k v))) := .inl ⟨kvs, k, e, rfl, hl, rfl⟩
theorem DPut.t {K : PySem.W.Frag} {H : Hp} {a b : Addr} {kvs : List (List Key × V)} {k : List Key} {v : V} (e : H a = some (.dT kvs)) (eb : TupAt K H b (k.map kV)) (hl : kvs.length < sizeLine) :
    DPut K H a (.ref b) v (upd H a (.dT (putK kvs k v))) := .inr ⟨kvs, k, b, e, rfl, eb, hl, rfl⟩
section
variable {X : Cx} {pins : List (Addr × Obj)} {σ : St} {H : Hp} {s : Shared} {a : Addr} {y v : V} {u r : Value} {o : Option V} {A : Around} {E : Value → Shared → Prop}
theorem Inv.big (I : Inv X pins σ H s) : sysModules < s.heap.objs.size := by
  have h : mainGlobals < s.heap.objs.size := (I.mod.glob.keeps I.bk).lt
  exact Nat.lt_trans (by decide) h
theorem d_getItem {Q : Value → Shared → Prop} (hu : A.units + 1 < cLine) (I : Inv X pins σ H s) (g : DGet X.K H a y (some v)) (ry : RelV y u) (h : ∀ w' s', Inv X pins σ H s' → RelV v w' → Q w' s') :
    wpAny (model X.prog X.w) A (getItem (.ref a) u) Q E s := by
  rcases g with ⟨kvs, k, e, ey, l⟩ | ⟨kvs, k, b, e, ey, eb, l⟩
  · subst ey
    obtain ⟨z, hd, vs, rel, dd⟩ := dk_rd I.hok e
    obtain ⟨w', hw, rw'⟩ := RelO.some_of (v := v) (o := valueAt vs k) (by rw [l]; exact rel.val k)
    exact wpAny_getItem_of (kV_is ry) dd.mapOf hw (h w' _ (I.tok _) rw')
  · subst ey
    cases (show u = Value.ref b from ry)
    obtain ⟨z, hd, xs, rel, dd⟩ := dt_rd I.kIn I.hok e
    obtain ⟨w', hw, rw'⟩ := RelO.some_of (v := v) (o := (atKey xs k).map (·.2)) (by rw [l]; exact rel.val k)
    obtain ⟨p, hp, hp2⟩ := Option.map_eq_some_iff.mp hw
    refine wpAny_getItem_heap (tupleKind_room_in1 hu) (key_of I.kIn I.hok eb) dd hp ?_
    rw [hp2]
    exact h w' _ (I.tok _) rw'
theorem d_write {h' : Heap} {t' : Nat} {ob : HO} (I : Inv X pins σ H s) (mu : Mut (H a)) (hs : Heap.SameBut a s.heap h') (he : ∃ q, h'.get? a = some q) (new : ObjOk X.prog X.w X.K (upd H a ob) h' a ob) :
    Inv X pins σ (upd H a ob) { s with heap := h', toks := t' } :=
  I.write (x := a) (e := a) mu (.inl rfl) (fun b q hb z => (hs.2 b hb).trans z) he new
theorem dk_new {P : Program} {w : World} {K : PySem.W.Frag} {H' : Hp} {h' : Heap} {kvs : List (Key × V)} {vs : List (Key × Value)} (z : kvs.length ≤ sizeLine) (hd : (a == sysModules) = false) (rel : KV kvs vs) (dd : h'.DictOf (mixKind P w) a vs) :
    ObjOk P w K H' h' a (.dK kvs) := ⟨z, hd, vs, rel, dd⟩
theorem d_setItem {H' : Hp} {Q : Unit → Shared → Prop} (hu : A.units + 1 < cLine) (I : Inv X pins σ H s) (g : DPut X.K H a y v H') (ry : RelV y u) (rv : RelV v r) (h : ∀ s', Inv X pins σ H' s' → Q () s') :
    wpAny (model X.prog X.w) A (setItem (.ref a) u r) Q E s := by
  rcases g with ⟨kvs, k, e, ey, l, eH⟩ | ⟨kvs, k, b, e, ey, eb, l, eH⟩
  · subst ey eH
    obtain ⟨z, hd, vs, rel, dd⟩ := dk_of I.hok e
    have hz : vs.length ≤ sizeLine := by rw [← rel.length]; exact z
    have hl : (putK kvs k v).length ≤ sizeLine := by have := length_putK kvs k v; omega
    refine wpAny_setItem_pairs (hsz := hz) (kV_is ry) dd fun h' dd' hs => h _ ?_
    have he : ∃ q, h'.get? a = some q := let ⟨q, _, _, hq, _⟩ := dd'; ⟨q, hq⟩
    exact d_write I (by rw [e]; exact True.intro) hs he (dk_new hl hd (rel.put k rv) dd')
  · subst ey eH
    cases (show u = Value.ref b from ry)
    obtain ⟨z, hd, xs, rel, dd⟩ := dt_of I.kIn I.hok e
    have hz : xs.length ≤ sizeLine := by rw [← Paired.length rel]; exact z
    have hl : (putK kvs k v).length ≤ sizeLine := by have := length_putK kvs k v; omega
    refine wpAny_setItem_heap (hsz := hz) (tupleKind_room_in1 hu) (key_of I.kIn I.hok eb) dd fun h' dd' hs => h _ ?_
    obtain ⟨q, es, ep, hq, h2, h3, h4, _, h5⟩ := dd'
    refine d_write I (by rw [e]; exact True.intro) hs ⟨q, hq⟩ ⟨hl, hd, _, (rel.put k eb rv).keeps fun c ys ec => ?_, q, es, ep, hq, h2, h3, h4, h5⟩
    rw [upd_ne (ne_of ec e (fun z => nomatch z))]
    exact ec
end
section
variable {X : Cx} {pins : List (Addr × Obj)} {σ : St} {H : Hp} {s : Shared} {a : Addr} {kvs : List (Key × V)} {k : Key} {u : Value} {A : Around} {E : Value → Shared → Prop}
theorem d_len {Q : Value → Shared → Prop} (I : Inv X pins σ H s) (e : Rd H a (.dK kvs)) (h : ∀ t s', Inv X pins σ H s' → Q (.int kvs.length t) s') : wpAny (model X.prog X.w) A (call (.builtin "len") [.ref a]) Q E s := by
  obtain ⟨z, hd, vs, rel, dd⟩ := dk_rd I.hok e
  refine call_len_dict hd dd (by rw [← rel.length]; rw [sizeLine_eq] at z; omega) ?_
  rw [← rel.length]
  exact h _ _ (I.tok _)
end
theorem dict_typeIs {X : Cx} {pins : List (Addr × Obj)} {σ : St} {H : Hp} {s : Shared} {a : Addr} {y : V} {o : Option V} (I : Inv X pins σ H s) (g : DGet X.K H a y o) : s.TypeIs (.ref a) "dict" := by
  rcases g with ⟨kvs, k, e, _, _⟩ | ⟨kvs, k, b, e, _, _, _⟩
  · obtain ⟨_, _, vs, _, dd⟩ := dk_rd I.hok e
    exact dd.typeIs
  · obtain ⟨_, _, xs, _, dd⟩ := dt_rd I.kIn I.hok e
    exact dd.typeIs
section
variable {X : Cx} {o i e value : Expr} {pos pos' tpos : Pos} {td ty tv : TE}
end
theorem dt_empty {P : Program} {w : World} {K : PySem.W.Frag} {H : Hp} (h : Heap) (hb : sysModules < h.objs.size) : ObjOk P w K H (h.push { cls := .type "dict", data := .dict #[] }) h.objs.size (.dT []) :=
  ⟨Nat.zero_le _, beq_eq_false_iff_ne.mpr (Ne.symm (Nat.ne_of_lt hb)), [], .nil, _, #[], 0, Heap.get?_push_size _ rfl, ⟨rfl, rfl, rfl⟩, rfl, rfl, List.nodup_nil⟩
def tDNewT : TE := fun _ H Q => ∀ p, H p = none → Q (.ref p) (upd H p (.dT []))
section
variable {X : Cx} {pos : Pos}
theorem pe_dnewT : PE X (.Dict [] [] pos) tDNewT := fun pins s σ H Q I h =>
  wpAny_Dict_empty ⟨.ref s.heap.objs.size, _, I.laid (a := s.heap.objs.size) (o := .dT []) (t' := s.toks) (fun _ _ q => Heap.get?_push_of_some _ q) (Nat.le_refl _) (dt_empty s.heap I.big), rfl, h _ (I.hok.fresh (Nat.le_refl _))⟩
end
structure M1 (X : Cx) (o : Expr) (m : Str) (apos : Pos) (e : Expr) (cpos : Pos) : Prop where
  base : attributeBase o m X.env (eval o X.env) = eval o X.env
  few : ((backTo cpos (starEach [e] X.env)).all (fun x => !x.1) && (backToKw cpos (keywordEach [] X.env)).all (fun x => x.1.isSome)
    && decide (([e] : List Expr).length + ([] : List Keyword).length + (if ([] : List Keyword).isEmpty then 0 else 1) < 30)) = true
  line : (apos.endLine == cpos.line) = true
  trees : backTo cpos (starEach [e] X.env) = [(false, eval e X.env)]
structure M2 (X : Cx) (o : Expr) (m : Str) (apos : Pos) (e f : Expr) (cpos : Pos) : Prop where
  base : attributeBase o m X.env (eval o X.env) = eval o X.env
  few : ((backTo cpos (starEach [e, f] X.env)).all (fun x => !x.1) && (backToKw cpos (keywordEach [] X.env)).all (fun x => x.1.isSome)
    && decide (([e, f] : List Expr).length + ([] : List Keyword).length + (if ([] : List Keyword).isEmpty then 0 else 1) < 30)) = true
  line : (apos.endLine == cpos.line) = true
  trees : backTo cpos (starEach [e, f] X.env) = [(false, eval e X.env), (false, eval f X.env)]
section
variable {X : Cx} {pins : List (Addr × Obj)} {σ : St} {H : Hp} {s : Shared} {a : Addr} {y d : V} {u r : Value} {o : Option V} {A : Around} {E : Value → Shared → Prop}
end
section
variable {X : Cx} {o e f : Expr} {apos cpos : Pos} {td ty tx : TE}
end
section
variable {X : Cx} {pins : List (Addr × Obj)} {σ : St} {H : Hp} {s : Shared} {a : Addr} {kvs : List (Key × V)} {A : Around} {E : Value → Shared → Prop}
end
section
variable {X : Cx} {pins : List (Addr × Obj)} {σ : St} {H : Hp} {s : Shared} {a : Addr} {y : V} {u : Value} {A : Around} {E : Value → Shared → Prop}
end
end L2
namespace HT
open PySem PyProof.Rows
section
open PySem.SeqAt
open PySem.AutoSeq1 (wpAny_loadPart')
open PySem.MeetsSeq PySem.MeetsSeq2 PySem.MeetsSeq3
end
section
variable {prog : Program} {w : World} {A : Around} {E : Value → Shared → Prop} {s : Shared}
theorem cat_tup {t b : Addr} {vs ws : List Value} {Q : Value → Shared → Prop} (ht : IsTup s.heap t vs.toArray) (hb : IsTup s.heap b ws.toArray) (hv : vs ≠ [])
    (h1 : ws = [] → Q (.ref t) s) (h2 : ws ≠ [] → Q (.ref s.heap.objs.size) { s with heap := s.heap.push { cls := .type "tuple", data := .seq (vs ++ ws).toArray } })
    (hsz : vs.length + ws.length ≤ sizeLine) : wpAny (model prog w) A (binaryOp .Add (.ref t) (.ref b)) Q E s := by
  obtain ⟨⟨cls, dd, data, sl⟩, ho, hc, n, hd⟩ := id ht
  obtain ⟨⟨cls2, dd2, data2, sl2⟩, ho2, hc2, n2, hd2⟩ := id hb
  simp only at hc hd hc2 hd2
  subst hc hd hc2 hd2
  have e : vs.toArray ++ ws.toArray = (vs ++ ws).toArray := by simp
  by_cases hw : ws = []
  · exact concat_meets ⟨_, ho, rfl⟩ ⟨_, ho2, rfl⟩ noFill_tuple_add seq_tuple_add PySem.F.slot_tuple_add PySem.F.entry_tuple_add (PySem.F.args_tuple_add_2 _ _)
      (tuple_addW1 t b vs.toArray ws.toArray n n2 dd dd2 sl sl2 (by simpa using hv) (by simp [hw])) ⟨ho, ho2, h1 hw⟩
  · refine concat_meets ⟨_, ho, rfl⟩ ⟨_, ho2, rfl⟩ noFill_tuple_add seq_tuple_add PySem.F.slot_tuple_add PySem.F.entry_tuple_add (PySem.F.args_tuple_add_2 _ _)
      (tuple_addW2 t b vs.toArray ws.toArray n n2 dd dd2 sl sl2 (by simpa using hv) (by simpa using hw) (by rw [List.size_toArray, List.size_toArray]; exact hsz)) ⟨ho, ho2, ?_⟩
    rw [e]
    exact h2 hw
def sIx (n d : Nat) : Option Int → Nat
  | none => d
  | some v => if v < 0 then (v + (n : Int)).toNat else min v.toNat n
theorem sIx_nat (n d k : Nat) : sIx n d (some (k : Int)) = min k n := by
  show (if (k : Int) < 0 then ((k : Int) + (n : Int)).toNat else min (k : Int).toNat n) = min k n
  rw [if_neg (by omega), Int.toNat_natCast]
theorem sIx_le (n d : Nat) (hd : d ≤ n) (o : Option Int) : sIx n d o ≤ n := by
  cases o with
  | none => exact hd
  | some v =>
    show (if v < 0 then (v + (n : Int)).toNat else min v.toNat n) ≤ n
    by_cases hv : v < 0
    · rw [if_pos hv]; omega
    · rw [if_neg hv]; exact Nat.min_le_right _ _
theorem clip_eq (v : Int) (n d : Nat) : (if v < 0 then max (v + (n : Int)) 0 else min v (n : Int)) = ((sIx n d (some v) : Nat) : Int) := by
  show (if v < 0 then max (v + (n : Int)) 0 else min v (n : Int)) = (((if v < 0 then (v + (n : Int)).toNat else min v.toNat n) : Nat) : Int)
  by_cases hv : v < 0
  · simp only [if_pos hv]; omega
  · simp only [if_neg hv]; omega
theorem adjust_gen (lo hi : Option Int) (n : Nat) : Builtin.Slice.sliceAdjust lo hi 1 (n : Int) = (((sIx n 0 lo : Nat) : Int), ((sIx n n hi : Nat) : Int)) := by
  have h1 : ¬ ((1 : Int) < 0) := by omega
  unfold Builtin.Slice.sliceAdjust
  simp only [h1, if_false]
  refine Prod.ext ?_ ?_
  · cases lo with
    | none => rfl
    | some v => exact clip_eq v n 0
  · cases hi with
    | none => rfl
    | some v => exact clip_eq v n n
theorem places_gen (i j : Nat) : Builtin.Slice.slicePlaces (i : Int) (j : Int) 1 = j - i := by
  unfold Builtin.Slice.slicePlaces
  have h1 : (1 : Int) > 0 := by omega
  simp only [h1, if_true, Int.ediv_one]
  split <;> omega
theorem slicePart_ {v : Value} {o : Option Int} {Q : Option Int → Shared → Prop} (p : IsPart v o) (h : Q o s) : wpAny (model prog w) A (Builtin.Slice.slicePartIndex v) Q E s := by
  cases p with
  | none => exact slicePart_none h
  | int i t => exact slicePart_int h
theorem sliceApplied_gen {sl : Addr} {vl vu : Value} {lo hi : Option Int} {n : Nat} {Q : Int × Int × Nat → Shared → Prop} (hs : s.heap.IsSliceOf sl vl vu .none) (pl : IsPart vl lo) (pu : IsPart vu hi)
    (h : Q (((sIx n 0 lo : Nat) : Int), 1, sIx n n hi - sIx n 0 lo) s) : wpAny (model prog w) A (Builtin.Slice.sliceApplied (.ref sl) (pure (n : Int))) Q E s := by
  obtain ⟨os, hos, hcs, hds⟩ := id hs
  unfold Builtin.Slice.sliceApplied Builtin.Slice.sliceFields
  refine wpAny_bind (wpAny_bind (wpAny_field hos hds (x := vl) rfl (wpAny_bind (wpAny_field hos hds (x := vu) rfl (wpAny_bind (wpAny_field hos hds (x := .none) rfl (wpAny_pure ?_)))))))
  refine wpAny_bind (slicePart_none ?_)
  show wpAny _ _ (if ((1 : Int) == 0) = true then _ else _) _ _ s
  rw [if_neg (by decide)]
  refine wpAny_bind (slicePart_ pl (wpAny_bind (slicePart_ pu (wpAny_bind (wpAny_pure ?_)))))
  show wpAny _ _ (match Builtin.Slice.sliceAdjust lo hi 1 (n : Int) with | (lo, hi) => pure (lo, (1 : Int), Builtin.Slice.slicePlaces lo hi 1)) _ _ s
  rw [adjust_gen lo hi n]
  show wpAny _ _ (pure (((sIx n 0 lo : Nat) : Int), (1 : Int), Builtin.Slice.slicePlaces ((sIx n 0 lo : Nat) : Int) ((sIx n n hi : Nat) : Int) 1)) _ _ s
  rw [places_gen]
  exact wpAny_pure h
theorem pick_gen (xs : Array Value) (i k : Nat) : ((List.range k).filterMap fun (m : Nat) => xs[((i : Int) + (m : Int) * 1).toNat]?).toArray = ((xs.toList.drop i).take k).toArray := by
  have e : (fun (m : Nat) => xs[((i : Int) + (m : Int) * 1).toNat]?) = fun m => xs[i + m]? := by
    funext m
    have : ((i : Int) + (m : Int) * 1).toNat = i + m := by omega
    rw [this]
  rw [e]
  have := pick_run xs i k
  rw [List.filterMap_map] at this
  have e2 : ((fun x => xs[x]?) ∘ fun x => i + x) = fun m => xs[i + m]? := rfl
  rw [e2] at this
  rw [this]
theorem getItem_tuple_cut {t sl : Addr} {items : Array Value} {vl vu : Value} {lo hi : Option Int} {Q : Value → Shared → Prop} (ht : IsTup s.heap t items) (hs : s.heap.IsSliceOf sl vl vu .none) (pl : IsPart vl lo) (pu : IsPart vu hi)
    (hw : ¬ (sIx items.size 0 lo = 0 ∧ sIx items.size items.size hi = items.size))
    (h : Q (.ref s.heap.objs.size) { s with heap := s.heap.push { cls := .type "tuple", data := .seq ((items.toList.drop (sIx items.size 0 lo)).take (sIx items.size items.size hi - sIx items.size 0 lo)).toArray } })
    (hsz : items.size ≤ sizeLine) : wpAny (model prog w) A (getItem (.ref t) (.ref sl)) Q E s := by
  have htake : sizeOk (.seq ((items.toList.drop (sIx items.size 0 lo)).take (sIx items.size items.size hi - sIx items.size 0 lo)).toArray) := by
    show ((items.toList.drop (sIx items.size 0 lo)).take (sIx items.size items.size hi - sIx items.size 0 lo)).toArray.size ≤ sizeLine
    rw [List.size_toArray, List.length_take, List.length_drop, Array.length_toList]
    omega
  have hj : sIx items.size items.size hi ≤ items.size := sIx_le _ _ (Nat.le_refl _) hi
  obtain ⟨os, hos, hcs, hds⟩ := id hs
  have hTs : s.TypeIs (.ref sl) "slice" := ⟨os, hos, hcs⟩
  unfold getItem
  try with_reducible refine wpAny_holding ?_
  first | refine wpAny_bind (wpAny_pure ?_) | skip
  refine wpAny_bind (wpAny_sequenceKey ht.typeIs (by decide) ?_)
  refine wpAny_bind (wpAny_callSpecial?_slot (name := Str.ofString "__getitem__") ht.typeIs PyProof.Rows.slot_tuple_getitem
    (wpAny_call_entry PyProof.Rows.slot_tuple_getitem ht.typeIs entry_tuple_getitem ?_ (args_tuple_getitem _ _)))
  show wpAny _ _ (Builtin.Tuple.tupleItemsOf (.ref t) >>= _) _ _ s
  refine wpAny_bind (tupleItemsOf_ ht ?_)
  refine wpAny_bind (wpAny_typeOf hTs ?_)
  rw [if_pos (by decide)]
  refine wpAny_bind (sliceApplied_gen hs pl pu ?_)
  have hno : ¬ ((((sIx items.size 0 lo : Nat) : Int) == 0 && (1 : Int) == 1 && (sIx items.size items.size hi - sIx items.size 0 lo) == items.size) = true) := by
    intro q
    rw [Bool.and_eq_true, Bool.and_eq_true] at q
    have q1 : ((sIx items.size 0 lo : Nat) : Int) = 0 := eq_of_beq q.1.1
    have q2 : sIx items.size items.size hi - sIx items.size 0 lo = items.size := eq_of_beq q.2
    exact hw ⟨by omega, by omega⟩
  show wpAny _ _ (if (((sIx items.size 0 lo : Nat) : Int) == 0 && (1 : Int) == 1 && (sIx items.size items.size hi - sIx items.size 0 lo) == items.size) = true then _ else _) _ _ s
  rw [if_neg hno, pick_gen]
  first
    | exact wpAny_bind (m := Builtin.Tuple.tupleExact _) (wpAny_newObj_type (wpAny_pure ⟨_, rfl, wpAny_pure h⟩) htake)
    | exact wpAny_bind (m := Builtin.Tuple.tupleExact _) (wpAny_newObj_type (wpAny_bind (wpAny_pure (wpAny_pure ⟨_, rfl, wpAny_pure h⟩))) htake)
    | exact wpAny_bind (wpAny_bind (m := Builtin.Tuple.tupleExact _) (wpAny_newObj_type (wpAny_pure (wpAny_pure ⟨_, rfl, wpAny_pure h⟩)) htake))
    | exact wpAny_bind (wpAny_bind (m := Builtin.Tuple.tupleExact _) (wpAny_newObj_type (wpAny_pure ⟨_, rfl, wpAny_pure h⟩) htake))
end
end HT
namespace L2
open PySem PySem.Spec PyProof.Rows
abbrev TO := St → Hp → (Option Int → Hp → Prop) → Prop
def PO (X : Cx) (e : Option Expr) (t : TO) : Prop :=
  ∀ (pins : List (Addr × Obj)) (s : Shared) (σ : St) (H : Hp) (Q : Option Int → Hp → Prop), Inv X pins σ H s → t σ H Q →
    wpAny (model X.prog X.w) X.A (evalPart e X.env) (fun u s' => ∃ o H', Inv X pins σ H' s' ∧ IsPart u o ∧ Q o H') X.xe s
def tNoPart : TO := fun _ H Q => Q none H
def tPart (t : TE) : TO := fun σ H Q => t σ H fun x H1 => ∃ i, x = .int i ∧ Q (some i) H1
section
variable {X : Cx} {e : Expr} {te : TE} {lo hi : Option Expr} {tl th : TO} {pos p2 : Pos}
theorem po_none : PO X none tNoPart := by
  intro pins s σ H Q I h
  rw [evalPart_none]
  exact wpAny_pure ⟨none, H, I, .none, h⟩
theorem po_some (h : PE X e te) : PO X (some e) (tPart te) := by
  intro pins s σ H Q I hw
  rw [evalPart_some]
  refine thn (h pins s σ H _ I hw) fun u s1 ⟨x, H1, I1, r1, q1⟩ => ?_
  obtain ⟨i, rfl, q⟩ := q1
  obtain ⟨t, rfl⟩ := r1
  exact ⟨some i, H1, I1, .int i t, q⟩
def SlR (X : Cx) (r : V → Option Int → Option Int → Hp → VK → Prop) : Prop :=
  ∀ (pins : List (Addr × Obj)) (s : Shared) (σ : St) (H : Hp) (x : V) (v vl vu : Value) (lo hi : Option Int) (sl : Addr) (Q : VK), Inv X pins σ H s → RelV x v → s.heap.IsSliceOf sl vl vu .none → IsPart vl lo → IsPart vu hi → r x lo hi H Q →
    ∃ T id, typeLookup (.type T) "__getitem__" = pure (some (.builtin id)) ∧ s.TypeIs v T ∧ wpAny (model X.prog X.w) X.A (getItem v (.ref sl)) (EP X pins σ Q) X.xe s
theorem SlR.or {r r' : V → Option Int → Option Int → Hp → VK → Prop} (h : SlR X r) (h' : SlR X r') : SlR X (fun x lo hi H Q => r x lo hi H Q ∨ r' x lo hi H Q) := by
  intro pins s σ H x v vl vu lo hi sl Q I rx hs pl pu q
  rcases q with q | q
  · exact h pins s σ H x v vl vu lo hi sl Q I rx hs pl pu q
  · exact h' pins s σ H x v vl vu lo hi sl Q I rx hs pl pu q
def tSl (r : V → Option Int → Option Int → Hp → VK → Prop) (te : TE) (tl th : TO) : TE := fun σ H Q => te σ H fun x H1 => tl σ H1 fun l H2 => th σ H2 fun u H3 => r x l u H3 Q
theorem pe_slice {r : V → Option Int → Option Int → Hp → VK → Prop} (hr : SlR X r) (he : PE X e te) (hl : PO X lo tl) (hu : PO X hi th) : PE X (.Subscript e (.Slice lo hi none p2) pos) (tSl r te tl th) := by
  intro pins s σ H Q I h
  refine Subscript_ (thn (he pins s σ H _ I h) fun v s1 ⟨x, H1, I1, r1, q1⟩ => ?_)
  refine wpAny_Slice (thn (hl pins s1 σ H1 _ I1 q1) fun vl s2 ⟨l, H2, I2, pl, q2⟩ => thn (hu pins s2 σ H2 _ I2 q2) fun vu s3 ⟨u, H3, I3, pu, q3⟩ => ?_)
  rw [evalPart_none]
  refine wpAny_pure ?_
  have I4 : Inv X pins σ H3 { s3 with heap := s3.heap.push { cls := .type "slice", data := .fields #[vl, vu, .none] } } := I3.kept (t' := s3.toks) fun b ob q => Heap.get?_push_of_some _ q
  obtain ⟨T, id, hT, ht, hg⟩ := hr pins { s3 with heap := s3.heap.push { cls := .type "slice", data := .fields #[vl, vu, .none] } } σ H3 x v vl vu l u s3.heap.objs.size Q I4 r1 (Heap.IsSliceOf.new ..) pl pu q3
  show wpAny (model X.prog X.w) X.A (subscriptTail e (.Slice lo hi none p2) v (.ref s3.heap.objs.size)) (EP X pins σ Q) X.xe { s3 with heap := s3.heap.push { cls := .type "slice", data := .fields #[vl, vu, .none] } }
  exact tail_any (ops := [.ref s3.heap.objs.size, v]) ht hT hg (by with_unfolding_all rfl)
def cutV (xs : List V) (lo hi : Option Int) : List V := (xs.drop (HT.sIx xs.length 0 lo)).take (HT.sIx xs.length xs.length hi - HT.sIx xs.length 0 lo)
theorem cutV_length (xs : List V) (lo hi : Option Int) : (cutV xs lo hi).length ≤ xs.length := by
  unfold cutV
  rw [List.length_take, List.length_drop]
  omega
def rSlT (K : PySem.W.Frag) : V → Option Int → Option Int → Hp → VK → Prop := fun x lo hi H Q => ∃ a xs, x = .ref a ∧ SqT K H a xs ∧
  ¬ (HT.sIx xs.length 0 lo = 0 ∧ HT.sIx xs.length xs.length hi = xs.length) ∧ ∀ p, H p = none → Q (.ref p) (upd H p (.tup (cutV xs lo hi)))
theorem sl_tup : SlR X (rSlT X.K) := by
  intro pins s σ H x v vl vu lo hi sl Q I rx hs pl pu h
  obtain ⟨a, xs, rfl, hx, hw, q⟩ := h
  cases rx
  obtain ⟨its, r, ht, hz⟩ := I.tuple hx
  have hlen : its.toArray.size = xs.length := by rw [List.size_toArray]; exact r.length.symm
  refine ⟨"tuple", _, PyProof.Rows.slot_tuple_getitem.lookup, ht.typeIs, ?_⟩
  refine HT.getItem_tuple_cut ht hs pl pu (by rw [hlen]; exact hw) ?_ (by rw [hlen]; exact hz)
  rw [hlen]
  refine ⟨.ref s.heap.objs.size, _, I.laid (t' := s.toks) (o := .tup (cutV xs lo hi)) (fun b ob q => Heap.get?_push_of_some _ q) (Nat.le_refl _) ?_, rfl, q _ (I.hok.fresh (Nat.le_refl _))⟩
  exact ⟨Nat.le_trans (cutV_length xs lo hi) hz, _, (r.drop (HT.sIx xs.length 0 lo)).take (HT.sIx xs.length xs.length hi - HT.sIx xs.length 0 lo), IsTup.new _ _⟩
def rCatT (K : PySem.W.Frag) : R2 := fun x y H Q => ∃ a b xs ys, x = .ref a ∧ y = .ref b ∧ SqT K H a xs ∧ SqT K H b ys ∧ xs ≠ [] ∧ xs.length + ys.length ≤ sizeLine ∧
  (ys = [] → Q (.ref a) H) ∧ (ys ≠ [] → ∀ p, H p = none → Q (.ref p) (upd H p (.tup (xs ++ ys))))
theorem Vals.nil_iff {xs : List V} {us : List Value} (r : Vals xs us) : us = [] ↔ xs = [] := by
  cases r with
  | nil => simp
  | cons _ _ => simp
theorem op_catT : OpR X (binaryOp .Add) (rCatT X.K) := by
  intro pins s σ H x y v u Q I rx ry h
  obtain ⟨a, b, xs, ys, rfl, rfl, ha, hb, hx, hz, q1, q2⟩ := h
  cases rx
  cases ry
  obtain ⟨its, r1, p1, _⟩ := I.tuple ha
  obtain ⟨its2, r2, p2, _⟩ := I.tuple hb
  refine HT.cat_tup p1 p2 (fun z => hx (r1.nil_iff.mp z)) (fun z => ⟨.ref a, H, I, rfl, q1 (r2.nil_iff.mp z)⟩) (fun z => ?_) (by rw [← r1.length, ← r2.length]; exact hz)
  refine ⟨.ref s.heap.objs.size, _, I.laid (t' := s.toks) (o := .tup (xs ++ ys)) (fun b ob q => Heap.get?_push_of_some _ q) (Nat.le_refl _) ?_, rfl, q2 (fun w => z (r2.nil_iff.mpr w)) _ (I.hok.fresh (Nat.le_refl _))⟩
  exact ⟨by rw [List.length_append]; exact hz, _, r1.append r2, IsTup.new _ _⟩
end
end L2
namespace L2
open PySem PySem.Spec PyProof.Rows
def ixN (n : Nat) (i : Int) : Option Nat := if 0 ≤ i then (if i < n then some i.toNat else none) else if -(n : Int) ≤ i then some (i + n).toNat else none
def atI {α : Type} (xs : List α) (i : Int) : Option α := (ixN xs.length i).bind fun j => xs[j]?
theorem ixN_seq {n : Nat} {i : Int} {j : Nat} (h : ixN n i = some j) : seqIndex? i n = some j ∧ j < n ∧ -(n : Int) ≤ i ∧ i < n := by
  unfold ixN at h
  by_cases h0 : 0 ≤ i
  · rw [if_pos h0] at h
    by_cases h1 : i < n
    · rw [if_pos h1] at h
      have e : i.toNat = j := Option.some.inj h
      exact ⟨by rw [seqIndex_of h0 h1, e], by omega, by omega, h1⟩
    · rw [if_neg h1] at h; cases h
  · rw [if_neg h0] at h
    by_cases h1 : -(n : Int) ≤ i
    · rw [if_pos h1] at h
      have e : (i + n).toNat = j := Option.some.inj h
      exact ⟨by rw [seqIndex_neg (by omega) h1, e], by omega, h1, by omega⟩
    · rw [if_neg h1] at h; cases h
theorem atI_get {α : Type} {xs : List α} {i : Int} {v : α} (h : atI xs i = some v) : ∃ j, seqIndex? i xs.length = some j ∧ xs[j]? = some v ∧ j < xs.length ∧ -(xs.length : Int) ≤ i ∧ i < xs.length := by
  unfold atI at h
  cases e : ixN xs.length i with
  | none => rw [e] at h; cases h
  | some j =>
    rw [e] at h
    obtain ⟨h1, h2, h3, h4⟩ := ixN_seq e
    exact ⟨j, h1, h, h2, h3, h4⟩
def PlainIx (b : Expr) : Prop := ∀ o i, subscripted b false o i = operate [o, i] (getItem o i)
def IxR (X : Cx) (r : R2) : Prop :=
  ∀ (value slice : Expr) (pins : List (Addr × Obj)) (s : Shared) (σ : St) (H : Hp) (x y : V) (v u : Value) (Q : VK), Inv X pins σ H s → RelV x v → RelV y u → r x y H Q →
    subscripted slice false v u = operate [v, u] (getItem v u) → wpAny (model X.prog X.w) X.A (subscriptTail value slice v u) (EP X pins σ Q) X.xe s
def MtR (X : Cx) (id : String) (r : V → List V → Hp → VK → Prop) : Prop :=
  ∀ (pins : List (Addr × Obj)) (s : Shared) (σ : St) (H : Hp) (x : V) (xs : List V) (v : Value) (us : List Value) (Q : VK), Inv X pins σ H s → RelV x v → Vals xs us → r x xs H Q →
    wpAny (model X.prog X.w) X.A (call (.builtin id) (v :: us)) (EP X pins σ Q) X.xe s
section
variable {X : Cx} {a b : Expr} {ta tb : TE} {pos : Pos}
theorem IxR.or {r r' : R2} (h : IxR X r) (h' : IxR X r') : IxR X (fun x y H Q => r x y H Q ∨ r' x y H Q) := by
  intro value slice pins s σ H x y v u Q I rx ry q hs
  rcases q with q | q
  · exact h value slice pins s σ H x y v u Q I rx ry q hs
  · exact h' value slice pins s σ H x y v u Q I rx ry q hs
theorem pe_ix {r : R2} (hr : IxR X r) (ha : PE X a ta) (hb : PE X b tb) (hs : PlainIx b) : PE X (.Subscript a b pos) (tOp r ta tb) := by
  intro pins s σ H Q I h
  exact Subscript_ (binT ha hb I h fun v u s2 x y H2 I2 rx ry q => hr a b pins s2 σ H2 x y v u Q I2 rx ry q (hs _ _))
def rIxL (K : PySem.W.Frag) : R2 := fun x y H Q => ∃ p xs i v, x = .ref p ∧ y = .int i ∧ SqL K H p xs ∧ atI xs i = some v ∧ Q v H
def rIxT (K : PySem.W.Frag) : R2 := fun x y H Q => ∃ p xs i v, x = .ref p ∧ y = .int i ∧ SqT K H p xs ∧ atI xs i = some v ∧ Q v H
def rIxS : R2 := fun x y H Q => ∃ z i c, x = .str z ∧ y = .int i ∧ z.length ≤ sizeLine ∧ atI z.cps.toList i = some c ∧ Q (.str ⟨#[c]⟩) H
theorem ix_list : IxR X (rIxL X.K) := by
  intro value slice pins s σ H x y v u Q I rx ry h hs
  obtain ⟨p, xs, i, z, rfl, rfl, hq, he, q⟩ := h
  cases rx
  obtain ⟨t, rfl⟩ := ry
  obtain ⟨its, r, pl, hz⟩ := I.list hq
  obtain ⟨j, h1, h2, h3, h4, h5⟩ := atI_get he
  obtain ⟨w, ew, rw'⟩ := r.get h2
  have hl := r.length
  have hn := line63
  have fin : EP X pins σ Q w s := ⟨z, H, I, rw', q⟩
  by_cases h0 : 0 ≤ i
  · have hj : i.toNat = j := by
      rw [seqIndex_of h0 h5] at h1
      exact Option.some.inj h1
    exact item_listR pl.isList h0 (by omega) (by rw [hj]; simpa using ew) fin hs
  · have hj : (i + (its.toArray.size : Int)).toNat = j := by
      rw [seqIndex_neg (by omega) h4] at h1
      rw [List.size_toArray, ← hl]
      exact Option.some.inj h1
    exact subscriptTail_builtinR (x := w) pl.isList.typeIs slot_list_getitem.lookup
      (wpAny_getItem_list_neg (Q := fun r s' => r = w ∧ EP X pins σ Q r s') pl.isList (by omega) (by rw [List.size_toArray] <;> omega) (by omega) (by rw [hj]; simpa using ew) ⟨rfl, fin⟩) hs
theorem ix_tup : IxR X (rIxT X.K) := by
  intro value slice pins s σ H x y v u Q I rx ry h hs
  obtain ⟨p, xs, i, z, rfl, rfl, hq, he, q⟩ := h
  cases rx
  obtain ⟨t, rfl⟩ := ry
  obtain ⟨its, r, pl, hz⟩ := I.tuple hq
  obtain ⟨j, h1, h2, h3, h4, h5⟩ := atI_get he
  obtain ⟨w, ew, rw'⟩ := r.get h2
  have hl := r.length
  have hn := line63
  have fin : EP X pins σ Q w s := ⟨z, H, I, rw', q⟩
  exact subscriptTail_builtinR (x := w) pl.typeIs slot_tuple_getitem.lookup
    (getItem_tuple (j := j) (Q := fun r s' => r = w ∧ EP X pins σ Q r s') pl (by omega) (by omega) (by rw [List.size_toArray, ← hl]; exact h1) (by simpa using ew) ⟨rfl, fin⟩) hs
theorem ix_str : IxR X rIxS := by
  intro value slice pins s σ H x y v u Q I rx ry h hs
  obtain ⟨z, i, c, rfl, rfl, hz, he, q⟩ := h
  obtain ⟨t, rfl⟩ := rx
  obtain ⟨t', rfl⟩ := ry
  obtain ⟨j, h1, h2, h3, h4, h5⟩ := atI_get he
  have hl : z.cps.toList.length = z.length := by simp [Str.length]
  rw [hl] at h1 h4 h5
  have hn := line63
  exact tail_any (typeIs_str s z t) slot_str_getitem.lookup (getItem_str (c := c) (by
    have e1 : decide (i < -(2 ^ 63 : Int)) = false := decide_eq_false (by omega)
    have e2 : decide (i ≥ 2 ^ 63) = false := decide_eq_false (by omega)
    rw [e1, e2, Bool.or_false]) (by rw [h1]; simpa using h2) ⟨.str ⟨#[c]⟩, H, I.tok _, ⟨_, rfl⟩, q⟩) hs
def rIx (K : PySem.W.Frag) : R2 := fun x y H Q => rIxL K x y H Q ∨ rIxT K x y H Q ∨ rIxS x y H Q
theorem ix_seq : IxR X (rIx X.K) := ix_list.or (ix_tup.or ix_str)
theorem mapSeq_set (its : List Value) (n j : Nat) (u : Value) : Obj.mapSeq (·.setIfInBounds j u) { cls := .type "list", data := .seq its.toArray n } = { cls := .type "list", data := .seq (its.set j u).toArray n } := by
  simp [Obj.mapSeq]
theorem Inv.lst {pins : List (Addr × Obj)} {σ : St} {H : Hp} {s : Shared} {p : Addr} {xs : List V} (I : Inv X pins σ H s) (h : H p = some (.lst xs)) :
    ∃ (its : List Value) (n : Nat), Vals xs its ∧ s.heap.get? p = some { cls := .type "list", data := .seq its.toArray n } ∧ xs.length ≤ sizeLine := by
  obtain ⟨z, its, n, r, e⟩ := I.hok p _ h
  exact ⟨its, n, r, e, z⟩
theorem Inv.lstUpd {pins : List (Addr × Obj)} {σ : St} {H : Hp} {s : Shared} {p : Addr} {xs ys : List V} {its its' : List Value} {n n' : Nat} {f : Obj → Obj} (I : Inv X pins σ H s) (h : H p = some (.lst xs))
    (ho : s.heap.get? p = some { cls := .type "list", data := .seq its.toArray n }) (hf : f { cls := .type "list", data := .seq its.toArray n } = { cls := .type "list", data := .seq its'.toArray n' }) (r : Vals ys its') (hz : ys.length ≤ sizeLine) (t : Nat) :
    Inv X pins σ (upd H p (.lst ys)) { s with heap := s.heap.update p f, toks := t } := by
  have e : (s.heap.update p f).get? p = some { cls := .type "list", data := .seq its'.toArray n' } := by
    rw [Heap.get?_update_self f ho (by rw [hf] <;> rfl), hf]
  refine I.write (x := p) (e := p) (by rw [h]; trivial) (.inl rfl) (fun b u hb q => (Heap.get?_update_other _ _ (Ne.symm hb)).trans q) ⟨_, e⟩ ?_
  exact ⟨hz, its', n', r, e⟩
def rSetL : V → V → V → Hp → (Hp → Prop) → Prop := fun o i v H Q => ∃ p xs k j, o = .ref p ∧ i = .int k ∧ H p = some (.lst xs) ∧ ixN xs.length k = some j ∧ Q (upd H p (.lst (xs.set j v)))
theorem set_list : PSet X rSetL := by
  intro pins s σ H o i v ov iv u Q I ro ri rv h
  obtain ⟨p, xs, k, j, rfl, rfl, hp, hj, q⟩ := h
  cases ro
  obtain ⟨t, rfl⟩ := ri
  obtain ⟨its, n, r, ho, hz⟩ := I.lst hp
  obtain ⟨h1, h2, h3, h4⟩ := ixN_seq hj
  have hl := r.length
  have hn := line63
  have I' : Inv X pins σ (upd H p (.lst (xs.set j v))) { s with heap := s.heap.update p (Obj.mapSeq (·.setIfInBounds j u)) } :=
    I.lstUpd hp ho (mapSeq_set its n j u) (r.set rv j) (by rw [List.length_set]; exact hz) s.toks
  by_cases h0 : 0 ≤ k
  · have hk : k.toNat = j := by
      rw [seqIndex_of h0 h4] at h1
      exact Option.some.inj h1
    exact PySem.W.ki_setAt ho h0 (by omega) (by rw [List.size_toArray, ← hl]; exact h4) (by rw [hk]; exact ⟨_, I', q⟩)
  · have hk : (k + (its.toArray.size : Int)).toNat = j := by
      rw [seqIndex_neg (by omega) h3] at h1
      rw [List.size_toArray, ← hl]
      exact Option.some.inj h1
    exact PySem.W.ki_setBack ho (by omega) (by rw [List.size_toArray, ← hl]; exact h3) (by omega) (by rw [hk]; exact ⟨_, I', q⟩)
theorem slice_bounds (lo hi : Option Int) (n : Nat) : (sliceBounds lo hi none n).1 = ((HT.sIx n 0 lo : Nat) : Int) ∧ (sliceBounds lo hi none n).2.1 = ((HT.sIx n n hi : Nat) : Int) ∧ (sliceBounds lo hi none n).2.2 = 1 := by
  refine ⟨?_, ?_, rfl⟩
  · cases lo with
    | none => simp [sliceBounds, HT.sIx]
    | some i =>
      simp only [sliceBounds, HT.sIx, Option.getD_none, show (1 : Int) > 0 by decide, if_true]
      by_cases h : i < 0
      · simp only [h, if_true] <;> omega
      · simp only [h, if_false] <;> omega
  · cases hi with
    | none => simp [sliceBounds, HT.sIx]
    | some i =>
      simp only [sliceBounds, HT.sIx, Option.getD_none, show (1 : Int) > 0 by decide, if_true]
      by_cases h : i < 0
      · simp only [h, if_true] <;> omega
      · simp only [h, if_false] <;> omega
theorem slicePick_cut (its : List Value) (lo hi : Option Int) : slicePick its.toArray lo hi none = ((its.drop (HT.sIx its.length 0 lo)).take (HT.sIx its.length its.length hi - HT.sIx its.length 0 lo)).toArray := by
  obtain ⟨h1, h2, h3⟩ := slice_bounds lo hi its.toArray.size
  unfold slicePick
  rw [h1, h2, h3]
  simp only [sliceRange_one, pick_run, List.size_toArray] <;> rfl
def rSlL (K : PySem.W.Frag) : V → Option Int → Option Int → Hp → VK → Prop := fun x lo hi H Q => ∃ a xs, x = .ref a ∧ SqL K H a xs ∧ ∀ p, H p = none → Q (.ref p) (upd H p (.lst (cutV xs lo hi)))
theorem sl_list : SlR X (rSlL X.K) := by
  intro pins s σ H x v vl vu lo hi sl Q I rx hs pl pu h
  obtain ⟨a, xs, rfl, hx, q⟩ := h
  cases rx
  obtain ⟨its, r, ht, hz⟩ := I.list hx
  have hlen := r.length
  refine ⟨"list", _, slot_list_getitem.lookup, ht.isList.typeIs, ?_⟩
  refine wpAny_getItem_list_slice ht.isList hs pl pu .none (by simp) ?_ (by rw [List.size_toArray] <;> omega)
  rw [slicePick_cut, ← hlen]
  refine ⟨.ref s.heap.objs.size, _, I.laid (t' := s.toks) (o := .lst (cutV xs lo hi)) (fun b ob q => Heap.get?_push_of_some _ q) (Nat.le_refl _) ?_, rfl, q _ (I.hok.fresh (Nat.le_refl _))⟩
  exact ⟨Nat.le_trans (cutV_length xs lo hi) hz, _, 0, (r.drop (HT.sIx xs.length 0 lo)).take (HT.sIx xs.length xs.length hi - HT.sIx xs.length 0 lo), Heap.get?_push_size _ rfl⟩
theorem call_len_seq : CallR X (.builtin "len") (fun xs H Q => ∃ p ys, xs = [.ref p] ∧ (SqL X.K H p ys ∨ SqT X.K H p ys) ∧ Q (.int ys.length) H) := by
  intro pins s σ H xs us Q I r h
  obtain ⟨p, ys, rfl, hq, q⟩ := h
  obtain ⟨u, rfl, rx⟩ := vals1 r
  cases rx
  have hn := line63
  rcases hq with hq | hq
  · obtain ⟨its, r', pl, hz⟩ := I.list hq
    have hlen := r'.length
    exact Calls.call_len_list pl.isList (by simp only [List.size_toArray] <;> omega) ⟨.int ys.length, H, I.tok _, ⟨s.toks + 1, by rw [List.size_toArray, hlen]⟩, q⟩
  · obtain ⟨its, r', pl, hz⟩ := I.tuple hq
    have hlen := r'.length
    exact len_tuple pl (by simp only [List.size_toArray] <;> omega) ⟨.int ys.length, H, I.tok _, ⟨s.toks + 1, by rw [List.size_toArray, hlen]⟩, q⟩
theorem call_len_str : CallR X (.builtin "len") (fun xs H Q => ∃ z, xs = [.str z] ∧ z.length ≤ sizeLine ∧ Q (.int z.length) H) := by
  intro pins s σ H xs us Q I r h
  obtain ⟨z, rfl, hz, q⟩ := h
  obtain ⟨u, rfl, t, rfl⟩ := vals1 r
  have hn := line63
  exact len_str (by omega) ⟨.int z.length, H, I.tok _, ⟨_, rfl⟩, q⟩
theorem CallR.or {f : Value} {r r' : List V → Hp → VK → Prop} (h : CallR X f r) (h' : CallR X f r') : CallR X f (fun xs H Q => r xs H Q ∨ r' xs H Q) := by
  intro pins s σ H xs us Q I rs q
  rcases q with q | q
  · exact h pins s σ H xs us Q I rs q
  · exact h' pins s σ H xs us Q I rs q
theorem call_list_of : CallR X (.type "list") (fun xs H Q => ∃ p ys, xs = [.ref p] ∧ (SqL X.K H p ys ∨ SqT X.K H p ys) ∧ ∀ l, H l = none → Q (.ref l) (upd H l (.lst ys))) := by
  intro pins s σ H xs us Q I r h
  obtain ⟨p, ys, rfl, hq, q⟩ := h
  obtain ⟨u, rfl, rx⟩ := vals1 r
  cases rx
  have fin : ∀ (its : List Value), Vals ys its → ys.length ≤ sizeLine → ∀ (h' : Heap) (c' : Nat), (∀ b o', s.heap.get? b = some o' → h'.get? b = some o') →
      h'.get? s.heap.objs.size = some { cls := .type "list", dict := none, data := .seq its.toArray c', slots := #[] } → EP X pins σ Q (.ref s.heap.objs.size) { s with heap := h' } := fun its r' hz h' c' kp e =>
    ⟨.ref s.heap.objs.size, _, I.laid (t' := s.toks) kp (Nat.le_refl _) (show ObjOk X.prog X.w X.K _ h' _ (.lst ys) from ⟨hz, its, c', r', e⟩), rfl, q _ (I.hok.fresh (Nat.le_refl _))⟩
  rcases hq with hq | hq
  · obtain ⟨its, r', pl, hz⟩ := I.list hq
    have hlen := r'.length
    obtain ⟨o, ho, hc, n, hd⟩ := pl.isList
    exact call_list_seq p (.inl rfl) ho hc hd (fun h' c' kp e => fin its r' hz h' c' kp e) (by simp only [List.size_toArray] <;> omega)
  · obtain ⟨its, r', pl, hz⟩ := I.tuple hq
    have hlen := r'.length
    obtain ⟨o, ho, hc, n, hd⟩ := pl
    exact call_list_seq p (.inr rfl) ho hc hd (fun h' c' kp e => fin its r' hz h' c' kp e) (by simp only [List.size_toArray] <;> omega)
theorem call_tuple_of : CallR X (.type "tuple") (fun xs H Q => ∃ p ys, xs = [.ref p] ∧ ((SqL X.K H p ys ∧ ∀ l, H l = none → Q (.ref l) (upd H l (.tup ys))) ∨ (SqT X.K H p ys ∧ Q (.ref p) H))) := by
  intro pins s σ H xs us Q I r h
  obtain ⟨p, ys, rfl, h⟩ := h
  obtain ⟨u, rfl, rx⟩ := vals1 r
  cases rx
  rcases h with ⟨hq, q⟩ | ⟨hq, q⟩
  · obtain ⟨its, r', pl, hz⟩ := I.list hq
    have hlen := r'.length
    refine call_tuple_list pl.isList (fun h' kp => ?_) (by simp only [List.size_toArray] <;> omega)
    have I1 : Inv X pins σ H { s with heap := h' } := I.kept (t' := s.toks) kp
    have I2 : Inv X pins σ (upd H h'.objs.size (.tup ys)) { s with heap := h'.push { cls := .type "tuple", data := .seq its.toArray } } :=
      I1.laid (t' := s.toks) (fun b o e => Heap.get?_push_of_some _ e) (Nat.le_refl _) (show ObjOk X.prog X.w X.K _ _ _ (.tup ys) from ⟨hz, its, r', IsTup.new _ _⟩)
    exact ⟨.ref h'.objs.size, _, I2, rfl, q _ (I1.hok.fresh (Nat.le_refl _))⟩
  · obtain ⟨its, r', pl, hz⟩ := I.tuple hq
    exact call_tuple_same pl ⟨.ref p, H, I, rfl, q⟩
def tyV (K : PySem.W.Frag) (T : String) (x : V) (H : Hp) : Prop := match x with
  | .str _ => T = "str"
  | .int _ => T = "int"
  | .ref p => (T = "list" ∧ ∃ xs, SqL K H p xs) ∨ (T = "tuple" ∧ ∃ o, K.lookup p = some o ∧ o.cls = .type "tuple" ∧ o.dict = none) ∨
      (T = "dict" ∧ ((∃ kvs, H p = some (.dK kvs)) ∨ ∃ kvs, H p = some (.dT kvs))) ∨ (T = "set" ∧ ∃ S n, H p = some (.set S n))
  | _ => False
theorem tyV_is {pins : List (Addr × Obj)} {σ : St} {H : Hp} {s : Shared} {T : String} {x : V} {v : Value} (I : Inv X pins σ H s) (r : RelV x v) (ty : tyV X.K T x H) :
    s.TypeIs v T ∧ ∀ a, v = .ref a → ∃ ob, s.heap.get? a = some ob ∧ ob.dict = none := by
  cases x with
  | str z =>
    obtain ⟨t, rfl⟩ := r
    cases (show T = "str" from ty)
    exact ⟨typeIs_str s z t, fun _ e => nomatch e⟩
  | int i =>
    obtain ⟨t, rfl⟩ := r
    cases (show T = "int" from ty)
    exact ⟨typeIs_int s i t, fun _ e => nomatch e⟩
  | ref p =>
    cases r
    rcases ty with ⟨rfl, xs, hq⟩ | ⟨rfl, o, hk, hc, hd⟩ | ⟨rfl, hk⟩ | ⟨rfl, S, n, hk⟩
    · obtain ⟨its, _, pl, _⟩ := I.list hq
      refine ⟨pl.isList.typeIs, fun a e => ?_⟩
      cases e
      obtain ⟨o, n, e, c, hd, _⟩ := pl
      exact ⟨o, e, hd⟩
    · refine ⟨⟨o, I.kIn p o hk, hc⟩, fun a e => ?_⟩
      cases e
      exact ⟨o, I.kIn _ o hk, hd⟩
    · have z : ∃ o, s.heap.get? p = some o ∧ o.ExactDict := by
        rcases hk with ⟨kvs, hk⟩ | ⟨kvs, hk⟩
        · obtain ⟨_, _, _, _, o, _, _, e, ex, _⟩ := I.hok p _ hk
          exact ⟨o, e, ex⟩
        · obtain ⟨_, _, _, _, o, _, _, e, ex, _⟩ := I.hok p _ hk
          exact ⟨o, e, ex⟩
      obtain ⟨o, e, ex⟩ := z
      refine ⟨⟨o, e, ex.1⟩, fun a e2 => ?_⟩
      cases e2
      exact ⟨o, e, ex.2.1⟩
    · obtain ⟨o, _, _, _, e, ex, _⟩ := I.hok p _ hk
      refine ⟨⟨o, e, ex.1⟩, fun a e2 => ?_⟩
      cases e2
      exact ⟨o, e, ex.2.1⟩
  | _ => exact False.elim ty
def tBM (K : PySem.W.Frag) (T : String) (r : V → List V → Hp → VK → Prop) (to : TE) (t : TA) : TE := fun σ H Q => to σ H fun x H1 => tyV K T x H1 ∧ t σ H1 fun xs H2 => r x xs H2 Q
variable {o e : Expr} {es : List Expr} {to : TE} {t : TA} {name : Str} {apos cpos : Pos} {T id : String} {r : V → List V → Hp → VK → Prop}
theorem pe_bm (pa : PlainAttrs T) (slot : Slot T name id) (hty : typeOf (.builtin id) = pure (.type "method_descriptor")) (hm : MtR X id r) (ho : PE X o to) (ha : PA X (e :: es) t)
    (hbase : attributeBase o name X.env (eval o X.env) = eval o X.env := by rfl)
    (hfew : ((backTo cpos (starEach (e :: es) X.env)).all (fun x => !x.1) && (backToKw cpos (keywordEach [] X.env)).all (fun x => x.1.isSome)
      && decide ((e :: es).length + ([] : List Keyword).length + (if ([] : List Keyword).isEmpty then 0 else 1) < 30)) = true := by rfl)
    (hline : (apos.endLine == cpos.line) = true := by rfl) (hs : starEach (e :: es) X.env = (false, eval e X.env) :: starEach es X.env := by rfl) (hplain : (backTo cpos (starEach es X.env)).any (·.1) = false := by rfl) :
    PE X (.Call (.Attribute o name apos) (e :: es) [] cpos) (tBM X.K T r to t) := by
  intro pins s σ H Q I h
  refine wpAny_Call_method_late hbase hfew hline rfl (thn (ho pins s σ H _ I h) fun v s1 ⟨x, H1, I1, r1, ty, q1⟩ => ?_)
  obtain ⟨h1, h2⟩ := tyV_is I1 r1 ty
  refine ⟨T, id, pa, slot, hty, h1, h2, ?_⟩
  have hA := ha cpos pins s1 σ H1 _ I1 q1
  rw [hs] at hA ⊢
  refine Calls.callWith_builtin (by show (false || (backTo cpos (starEach es X.env)).any (·.1)) = false; rw [hplain] <;> rfl) (Calls.evalArgs_plain ?_)
  exact thn hA fun us s2 ⟨vs, H2, I2, r2, q2⟩ => hm pins s2 σ H2 x vs v us Q I2 r1 r2 q2
/- xs.append(e), list.index on a module's tuple .. are MtR facts of 06m -/
end
end L2
namespace L2
open PySem PySem.Spec PyProof.Rows
def MtM (X : Cx) (id : String) (r : V → List V → Hp → VK → Prop) : Prop :=
  ∀ (pins : List (Addr × Obj)) (s : Shared) (σ : St) (H : Hp) (x : V) (xs : List V) (v : Value) (us : List Value) (Q : VK), Inv X pins σ H s → RelV x v → Vals xs us → r x xs H Q →
    wpAny (model X.prog X.w) X.A (call (.builtin id) (v :: us)) (EP X pins σ Q) X.xe s
theorem Vals.one : ∀ {x : V} {us : List Value}, Vals [x] us → ∃ u, us = [u] ∧ RelV x u
  | _, _, .cons r .nil => ⟨_, rfl, r⟩
theorem Vals.two : ∀ {x y : V} {us : List Value}, Vals [x, y] us → ∃ u v, us = [u, v] ∧ RelV x u ∧ RelV y v
  | _, _, _, .cons r (.cons q .nil) => ⟨_, _, rfl, r, q⟩
theorem Vals.rep {xs : List V} {us : List Value} (h : Vals xs us) : ∀ k : Nat, Vals (List.replicate k xs).flatten (List.replicate k us).flatten
  | 0 => .nil
  | k + 1 => by
    rw [List.replicate_succ, List.replicate_succ, List.flatten_cons, List.flatten_cons]
    exact Vals.append h (Vals.rep h k)
theorem foldl_rep (its : List Value) : ∀ (k : Nat) (acc : List Value),
    List.foldl (fun x1 x2 => x1 ++ x2) acc.toArray (List.replicate k its.toArray) = (acc ++ (List.replicate k its).flatten).toArray
  | 0, acc => by simp
  | k + 1, acc => by
    have e : acc.toArray ++ its.toArray = (acc ++ its).toArray := by simp
    have e2 : (acc ++ its) ++ (List.replicate k its).flatten = acc ++ (List.replicate (k + 1) its).flatten := by
      rw [List.replicate_succ, List.flatten_cons, List.append_assoc]
    rw [← e2, ← foldl_rep its k (acc ++ its), ← e, List.replicate_succ, List.foldl_cons]
section
variable {X : Cx} {pins : List (Addr × Obj)} {σ : St} {H : Hp} {s : Shared} {l b : Addr} {xs ys zs : List V}
theorem Inv.lset {its its' : List Value} {n : Nat} {f : Array Value → Array Value} {t' : Nat} (I : Inv X pins σ H s) (hH : H l = some (.lst xs))
    (e : s.heap.get? l = some { cls := .type "list", data := .seq its.toArray n }) (hf : f its.toArray = its'.toArray) (hv : Vals ys its') (hz : ys.length ≤ sizeLine) :
    Inv X pins σ (upd H l (.lst ys)) { s with heap := s.heap.update l (Obj.mapSeq f), toks := t' } := by
  have q := PySem.IsL.update e f
  rw [hf] at q
  refine I.write (x := l) (e := l) (by rw [hH]; exact trivial) (.inl rfl) (fun b' u hb hu => (Heap.get?_update_other s.heap (Obj.mapSeq f) (Ne.symm hb)).trans hu) ⟨_, q⟩ ?_
  exact ⟨hz, its', _, hv, q⟩
theorem Inv.lnew {its : List Value} {t' : Nat} (I : Inv X pins σ H s) (hv : Vals ys its) (hz : ys.length ≤ sizeLine) :
    Inv X pins σ (upd H s.heap.objs.size (.lst ys)) { s with heap := s.heap.push { cls := .type "list", data := .seq its.toArray }, toks := t' } :=
  I.laid (fun _ _ q => Heap.get?_push_of_some _ q) (Nat.le_refl _) ⟨hz, its, 0, hv, Heap.get?_push_size _ rfl⟩
theorem Inv.fresh (I : Inv X pins σ H s) : H s.heap.objs.size = none := I.hok.fresh (Nat.le_refl _)
theorem Inv.lstM (I : Inv X pins σ H s) (hH : H l = some (.lst xs)) : xs.length ≤ sizeLine ∧ ∃ (its : List Value) (n : Nat), Vals xs its ∧ xs.length = its.length ∧ s.heap.get? l = some { cls := .type "list", data := .seq its.toArray n } := by
  obtain ⟨z, its, n, r, e⟩ := I.hok l _ hH
  exact ⟨z, its, n, r, r.length, e⟩
theorem notLongL {n : Nat} (h : n ≤ sizeLine) : Builtin.List.listTooLong n = false := by
  unfold Builtin.List.listTooLong
  exact decide_eq_false (by omega)
end
section
variable {X : Cx}
def rAppend : V → List V → Hp → VK → Prop := fun x vs H Q => ∃ l xs y, x = .ref l ∧ vs = [y] ∧ H l = some (.lst xs) ∧ xs.length < sizeLine ∧ Q .non (upd H l (.lst (xs ++ [y])))
theorem mt_append : MtM X "list.append" rAppend := by
  intro pins s σ H x vs v us Q I rx rv h
  obtain ⟨l, xs, y, rfl, rfl, hH, hz, q⟩ := h
  cases rx
  obtain ⟨u, rfl, ru⟩ := rv.one
  obtain ⟨z, its, n, r, hl, e⟩ := I.lstM hH
  refine call_meets F.slot_list_append ⟨_, e, rfl⟩ F.entry_list_append (F.args_list_append_2 _ _) (PySem.list_append l its.toArray n u (by rw [List.size_toArray]; omega)) ⟨e, ?_⟩
  refine ⟨.non, _, I.lset (its' := its ++ [u]) hH e (by simp) (r.append (.cons ru .nil)) ?_, rfl, q⟩
  rw [List.length_append, List.length_singleton]
  omega
def rCat : R2 := fun x y H Q => ∃ l b xs zs, x = .ref l ∧ y = .ref b ∧ H l = some (.lst xs) ∧ H b = some (.lst zs) ∧ xs.length + zs.length ≤ sizeLine ∧ ∀ p, H p = none → Q (.ref p) (upd H p (.lst (xs ++ zs)))
theorem op_cat : OpR X (binaryOp .Add) rCat := by
  intro pins s σ H x y v u Q I rx ry h
  obtain ⟨l, b, xs, zs, rfl, rfl, hH, hB, hz, q⟩ := h
  cases rx
  cases ry
  obtain ⟨z, its, n, r, hl, e⟩ := I.lstM hH
  obtain ⟨z2, its2, n2, r2, hl2, e2⟩ := I.lstM hB
  refine PySem.P.add_list e e2 ?_ (by rw [List.size_toArray, List.size_toArray]; omega)
  have ea : its.toArray ++ its2.toArray = (its ++ its2).toArray := by simp
  rw [ea]
  exact ⟨.ref _, _, I.lnew (t' := s.toks) (r.append r2) (by rw [List.length_append]; omega), rfl, q _ I.fresh⟩
def rRep : R2 := fun x y H Q => ∃ l k xs, x = .ref l ∧ y = .int k ∧ H l = some (.lst xs) ∧ -(2 ^ 63) ≤ k ∧ k < 2 ^ 63 ∧ xs.length * k.toNat ≤ sizeLine ∧
  ∀ p, H p = none → Q (.ref p) (upd H p (.lst (List.replicate k.toNat xs).flatten))
theorem len_rep {α : Type} (xs : List α) (k : Nat) : (List.replicate k xs).flatten.length = k * xs.length := by
  induction k with
  | zero => simp
  | succ k ih => rw [List.replicate_succ, List.flatten_cons, List.length_append, ih, Nat.succ_mul, Nat.add_comm]
theorem op_rep : OpR X (binaryOp .Mult) rRep := by
  intro pins s σ H x y v u Q I rx ry h
  obtain ⟨l, k, xs, rfl, rfl, hH, h1, h2, hz, q⟩ := h
  cases rx
  obtain ⟨t, rfl⟩ := ry
  obtain ⟨z, its, n, r, hl, e⟩ := I.lstM hH
  have hlen : its.toArray.size * k.toNat ≤ sizeLine := by rw [List.size_toArray, ← hl]; exact hz
  have hcap : ¬ its.toArray.size * k.toNat > (2 ^ 63 - 1) / 8 := by
    have : (sizeLine : Nat) ≤ (2 ^ 63 - 1) / 8 := by decide
    omega
  have hfit : ¬ (!Builtin.List.listFitsIndex k) = true := by
    rw [fitsIndex_both h1 h2]
    exact Bool.false_ne_true
  have hlong : ¬ Builtin.List.listTooLong (its.toArray.size * k.toNat) = true := by
    rw [notLongL hlen]
    exact Bool.false_ne_true
  have hnew : List.foldl (fun x1 x2 => x1 ++ x2) #[] (List.replicate (if its.toArray.isEmpty = true then 0 else k.toNat) its.toArray) = (List.replicate k.toNat its).flatten.toArray := by
    have f0 : ∀ m : Nat, List.foldl (fun x1 x2 => x1 ++ x2) #[] (List.replicate m its.toArray) = (List.replicate m its).flatten.toArray := fun m => by
      have := foldl_rep its m []
      rw [List.nil_append] at this
      exact this
    rw [f0]
    cases its with
    | nil => simp
    | cons a r' => rw [if_neg (by simp)]
  refine wpAny_binaryOp_repeat_ref (T := "list") (U := "int") (by decide) ⟨_, e, rfl⟩ (fun s' => typeIs_int s' k t) noFill_list_mul F.fills_int_mul F.slot_int_rmul repeat_list F.slot_int_index.lookup
    (call_meets F.slot_int_rmul (typeIs_int s k t) F.entry_int_rmul (F.args_int_rmul_2 _ _) (int___rmul___int_list k t l its.toArray n)
      ⟨e, rfl, ⟨_, e, rfl⟩, call_meets F.slot_list_mul ⟨_, e, rfl⟩ F.entry_list_mul (F.args_list_mul_2 _ _) (AutoListH.list___mul___list_int_3 l its.toArray n k t hfit hcap hlong) ⟨e, ?_⟩⟩)
  rw [hnew]
  exact ⟨.ref _, _, I.lnew (t' := s.toks) (r.rep k.toNat) (by rw [len_rep, Nat.mul_comm]; exact hz), rfl, q _ I.fresh⟩
end
section
variable {prog : Program} {w : World} {A : Around} {E : Value → Shared → Prop} {s : Shared}
set_option maxRecDepth 100000 in
end
section
variable {X : Cx}
end
end L2
namespace Att
open PySem PySem.W PySem.Calls PyProof.Rows
theorem ints_of_wellAll {P : Params} {h : Heap} : ∀ (ns : List Int) (vs : List Value), WellAll P h vs (ns.map WData.int) → IntsAre vs ns := by
  intro ns
  induction ns with
  | nil =>
    intro vs w
    rw [List.map_nil] at w
    cases w
    exact .nil
  | cons n ns ih =>
    intro vs w
    rw [List.map_cons] at w
    cases w with
    | cons a b =>
      cases a
      exact .cons _ _ (ih _ b)
theorem script_of {l : OpenLaw} {n : Nat} (hn : l.most = some n) {P : Params} {h : Heap} {args : List WData} {vals : List Value}
    (hpre : l.row.toRowW.claim.pre args = true) (hwl : WellAll P h vals args) :
    ∃ a vs ns, vals = [Value.ref a] ∧ args = [WData.list (ns.map WData.int)] ∧ h.get? a = some { cls := .type "list", data := .seq vs.toArray } ∧ IntsAre vs ns ∧ ns.length ≤ n := by
  have hsh : WShape.hasAll [] args [.list .int] = true := (pre_splitW hpre).1
  have hc : l.pre.holds [] { args := args } = true := (pre_splitW hpre).2
  obtain ⟨d, r, rfl, h1, h2⟩ := hasAllW_cons hsh
  obtain rfl := hasAllW_nil h2
  obtain ⟨xs, rfl, h3⟩ := hasW_list h1
  obtain ⟨ns, rfl⟩ := items_int h3
  have hlen : ns.length ≤ n := by
    unfold OpenLaw.pre at hc
    have h4 : (WTm.not (.lt (.lit (.int (n : Int))) (.len (.arg 0)))).holds [] { args := [.list (ns.map .int)] } = true := by
      have h4 := (holds_andW hc).1
      rw [hn] at h4
      exact h4
    have h5 := condW_of h4 (w_not (w_lt w_lit (w_len_list (w_arg rfl))))
    rw [List.length_map] at h5
    refine Nat.le_of_not_lt fun q => ?_
    have q' : (n : Int) < ((ns.length : Nat) : Int) := by omega
    first
      | (rw [decide_eq_true q'] at h5; exact absurd h5 (by decide))
      | (simp at h5; omega)
  cases hwl with
  | cons w1 w2 =>
    cases w2
    cases w1 with
    | list ho hall => exact ⟨_, _, ns, rfl, rfl, ho, ints_of_wellAll ns _ hall, hlen⟩
theorem post_true (l : OpenLaw) (args : List WData) : l.row.toRowW.claim.post args (.bool true) args = true :=
  postW_of (r := l.row.toRowW) (X := (true == true))
    (show WShape.has [] (.bool true) .bool = true by first | rfl | decide | simp [WShape.has, WShape.arms, WShape.armsAll])
    (show (WTm.eq .res (.lit (.bool true))).value [] { args := args, res := some (.bool true), after := args } = some (.bool (true == true)) from w_eq_bool (w_res rfl) w_lit) rfl
theorem attach_call {l : OpenLaw} {n : Nat} {q : Program} {loose : List Str} {XP : (Str → Option Value) → Heap → Prop} {YP : World → Heap → Prop} {d : DefRec}
    (hn : l.most = some n) (hdf : d.params.defaults = [])
    (call : ∀ (w : World) (s₀ s₁ : Shared) (mg mb : Str → Option Value) (fa : Addr) (o : Obj) (pm cd doc : Value) (a : Addr) (vs : List Value) (ns : List Int),
      Ground q loose [] XP w s₀ mg mb s₁.heap → YP w s₁.heap →
      s₁.heap.get? fa = some o → o.data = .func (docDef d.name d.params d.body d.scope pm cd doc) → s₁.heap.CodeRec cd d.name → mg d.name = some (.ref fa) →
      s₁.heap.get? a = some { cls := .type "list", data := .seq vs.toArray } → IntsAre vs ns → ns.length ≤ n → s₁.gens = #[] →
      codeAny (model l.prog w) callerA (.call (.ref fa) ⟨[.ref a], []⟩) (fun r s' => r = .ok (.ret (.bool true)) ∧ OldK s₁.heap s'.heap ∧ s'.os = s₁.os ∧ AllBare s'.gens) s₁) :
    WalkO q loose XP YP l.row.toRowW d [] (fun f vs => PySem.call f vs) := by
  intro w s₀ s₁ mg mb G Y fa o pm cd doc dV kV ho hd hcd hD hmg hg args vals as hpre hlay hrd hwl hlo
  obtain rfl : dV = .none := Dflts.none hD hdf
  obtain rfl : kV = .none := Dflts.noKw hD
  obtain ⟨a, vs, ns, rfl, rfl, hobj, hints, hlen⟩ := script_of hn hpre hwl
  refine enter_call (codeAny_mono (call w s₀ s₁ mg mb fa o pm cd doc a vs ns G Y ho (fd_plain hd) hcd hmg hobj hints hlen hg) fun r s' hq => ?_)
  obtain ⟨rfl, h2, h3, h4⟩ := hq
  exact ⟨.inl ⟨.bool true, .bool true, [], rfl, fun _ => rfl, .bool true, post_true l _, fun _ => ⟨List.Pairwise.nil, fun _ hm => (nomatch hm)⟩⟩, h2, h3, h4⟩
section
variable {prog : Program} {w : World} {A : Around} {E : Value → Shared → Prop} {s : Shared} {K : Frag}
end
end Att
namespace L2
open PySem PySem.Spec PyProof.Rows
theorem vals_ints : ∀ {vs : List Value} {ns : List Int}, IntsAre vs ns → Vals (ns.map V.int) vs
  | _, _, .nil => .nil
  | _, _, .cons n t h => .cons ⟨t, rfl⟩ (vals_ints h)
def Only (H : Hp) : Prop := ∀ b, H b = none ∨ ∃ o xs, H b = some (.frz o (.lst xs))
theorem law_call {P : Program} {w : World} {K : PySem.W.Frag} {mg mb : Str → Option Value} {CX : CXT} {k : Nat} {fa a : Addr} {fd : FuncData} {x : Str} {sp : Sp} {s₁ : Shared} {vs : List Value} {ns : List Int}
    (KX : K.In s₁.heap) (hns : s₁.heap.Ns mainGlobals mg) (hb : s₁.heap.Ns builtinsNs mb) (hbb : ∀ x : Str, x ≠ "__name__" → mb x = bootBuiltins x) (hlim : s₁.heap.NoLimit) (hg : s₁.gens = #[])
    (ha : s₁.heap.get? a = some { cls := .type "list", data := .seq vs.toArray }) (hi : IntsAre vs ns) (hl : ns.length ≤ sizeLine) (hr : Room k callerA)
    (F : ∀ base : Heap, K.In base → base.Ns mainGlobals mg → FnOk P w K mg base CX k fa fd [x] sp) (hbind : ∀ (s : Shared) (u : Value), BindsTo s fd ⟨[u], []⟩ [(x, u)])
    (hsp : ∀ H : Hp, Only H → SqL K H a (ns.map V.int) → sp [.ref a] H (fun v _ => v = .bl true) fun _ _ _ => False)
    (hCX : ∀ H e s', CX [] H s₁ (fun _ _ _ => False) e s' → False) :
    codeAny (model P w) callerA (.call (.ref fa) ⟨[.ref a], []⟩) (fun r s' => r = .ok (.ret (.bool true)) ∧ OldK s₁.heap s'.heap ∧ s'.os = s₁.os ∧ AllBare s'.gens) s₁ := by
  have rv := vals_ints hi
  have lenV := hi.length
  -- from an abstract heap in which nothing but the script may be tracked
  have core : ∀ H : Hp, Only H → SqL K H a (ns.map V.int) → HOk P w K H s₁.heap → (∀ b, H b ≠ none → b = a) → (H a ≠ none → K.lookup a = none) →
      codeAny (model P w) callerA (.call (.ref fa) ⟨[.ref a], []⟩) (fun r s' => r = .ok (.ret (.bool true)) ∧ OldK s₁.heap s'.heap ∧ s'.os = s₁.os ∧ AllBare s'.gens) s₁ := by
    intro H hO hS hok hA hK
    have base_of : ∀ {b : Addr} {o : Obj}, s₁.heap.get? b = some o → H b = none → (hidT s₁.heap H).get? b = some o := fun e n => hidT_get e n
    have noA : ∀ {b : Addr} {o : Obj} {es : Array DictEntry} {ep : Nat}, s₁.heap.get? b = some o → o.data = .dict es ep → H b = none := fun {b o es ep} e d => by
      cases q : H b with
      | none => rfl
      | some u =>
        have e' : b = a := hA b (by rw [q]; simp)
        subst e'
        rw [ha] at e; cases e
        have d' : Data.seq vs.toArray _ = Data.dict es ep := d
        cases d'
    have nsK : ∀ {b : Addr} {m : Str → Option Value}, s₁.heap.Ns b m → (hidT s₁.heap H).Ns b m := fun {b m} ⟨o, es, ep, e, d, r⟩ => ⟨o, es, ep, base_of e (noA e d), d, r⟩
    have hKb : K.In (hidT s₁.heap H) := fun b o e => base_of (KX b o e) (by
      cases q : H b with
      | none => rfl
      | some u =>
        have e' : b = a := hA b (by rw [q]; simp)
        subst e'
        rw [hK (by rw [q]; simp)] at e; cases e)
    have hM : Mod K mg (hidT s₁.heap H) := ⟨hKb, nsK hns, ⟨mb, nsK hb, hbb⟩, let ⟨mc, h1, h2⟩ := hlim; ⟨mc, nsK h1, h2⟩⟩
    have e0 : Env0 P w K mg (hidT s₁.heap H) callerA [] s₁ H := ⟨rfl, hM, fun b o e => of_hidT e, Nat.le_of_eq (hidT_size _ _), trivial, fun b hb => absurd (show b ∈ ([] : List Addr) from hb) (by simp), hok, .of_eq hg⟩
    refine codeAny_mono ((F _ hKb (nsK hns)).run callerA [] s₁ H ⟨[.ref a], []⟩ [.ref a] [.ref a] _ _ hr e0 (hbind s₁ (.ref a)) (.cons rfl .nil) (hsp H hO hS)) fun r s' h => ?_
    cases r with
    | error e => exact (hCX H e s' h).elim
    | ok fl =>
      cases fl with
      | next => exact False.elim h
      | brk => exact False.elim h
      | cont => exact False.elim h
      | ret u =>
        obtain ⟨v, H', os, bare, un, hok', r', q⟩ := h
        have q' : v = .bl true := q
        subst q'
        obtain rfl : u = Value.bool true := r'
        refine ⟨rfl, OldK.of_keep fun b o e => ?_, os, bare⟩
        cases q : H b with
        | none => exact un.keep b o e q (by intro z; exact absurd (show b ∈ ([] : List Addr) from z) (by simp)) (by simp)
        | some u =>
          rcases hO b with z | ⟨ob, xs, z⟩
          · rw [q] at z; cases z
          · have z2 := un.frzs b ob _ z
            obtain ⟨e1, _⟩ := hok b _ z
            obtain ⟨e2, _⟩ := hok' b _ z2
            rw [e] at e1; cases e1
            exact e2
  cases hk : K.lookup a with
  | some o =>
    -- the script is one of the module's own objects
    have e := KX a o hk
    rw [ha] at e
    cases e
    refine core (fun _ => none) (fun _ => .inl rfl) (.inr ⟨_, vs.toArray, _, hk, rfl, rfl, rfl, by rw [List.size_toArray, lenV]; exact hl, by simpa using rv⟩) (fun b u z => by have z' : (none : Option HO) = some u := z; cases z') (fun b z => absurd rfl z) fun z => absurd rfl z
  | none =>
    refine core (fun b => if b = a then some (.frz { cls := .type "list", data := .seq vs.toArray } (.lst (ns.map V.int))) else none) (fun b => ?_) (.inl (.inr ⟨{ cls := .type "list", data := .seq vs.toArray }, if_pos rfl⟩)) (fun b u z => ?_) (fun b z => ?_) fun _ => hk
    · by_cases hb : b = a
      · exact .inr ⟨_, _, if_pos hb⟩
      · exact .inl (if_neg hb)
    · by_cases hb : b = a
      · have z' := (if_pos hb).symm.trans z
        cases z'
        subst hb
        exact ⟨ha, by rw [List.length_map]; exact hl, vs, _, rv, ha⟩
      · have z' := (if_neg hb).symm.trans z
        cases z'
    · by_cases hb : b = a
      · exact hb
      · exact absurd (if_neg hb) z
end L2
namespace L2
open PySem PySem.Spec PyProof.Rows
theorem walk_of {l : PySem.W.OpenLaw} {n k : Nat} {q : Program} {loose : List Str} {XP : (Str → Option Value) → Heap → Prop} {YP : World → Heap → Prop} {d : DefRec} {K : Params → PySem.W.Frag} {CX : World → CXT} {sp : World → Sp} {x : Str}
    (hn : l.most = some n) (hn2 : n ≤ sizeLine) (hdf : d.params.defaults = []) (hr : Room k callerA)
    (hY : ∀ (w : World) (h : Heap), YP w h → (K w.params).In h)
    (F : ∀ (w : World) (mg : Str → Option Value) (fa : Addr) (h : Heap), (K w.params).In h → h.Ns mainGlobals mg → mg d.name = some (.ref fa) →
      ∃ fd : FuncData, (∀ (s : Shared) (u : Value), BindsTo s fd ⟨[u], []⟩ [(x, u)]) ∧
        ∀ base : Heap, (K w.params).In base → base.Ns mainGlobals mg → FnOk l.prog w (K w.params) mg base (CX w) k fa fd [x] (sp w))
    (hsp : ∀ (w : World) (H : Hp) (a : Addr) (ns : List Int), ns.length ≤ n → Only H → SqL (K w.params) H a (ns.map V.int) → sp w [.ref a] H (fun v _ => v = .bl true) fun _ _ _ => False)
    (hCX : ∀ (w : World) (H : Hp) (s : Shared) (e : Value) (s' : Shared), CX w [] H s (fun _ _ _ => False) e s' → False) :
    PySem.W.WalkO q loose XP YP l.row.toRowW d [] (fun f vs => PySem.call f vs) := by
  refine Att.attach_call hn hdf fun w s₀ s₁ mg mb fa o pm cd doc a vs ns G Y ho hd hcd hmg hobj hints hlen hg => ?_
  have KX := hY w _ Y
  obtain ⟨fd, hb, hF⟩ := F w mg fa _ KX G.T.g hmg
  exact law_call KX G.T.g G.T.b G.T.builtins G.T.nolimit hg hobj hints (Nat.le_trans hlen hn2) hr hF hb (fun H hO hS => hsp w H a ns hlen hO hS) fun H e s' => hCX w H s₁ e s'
theorem walk_ofK {l : PySem.W.OpenLaw} {n k : Nat} {q : Program} {loose : List Str} {XP : (Str → Option Value) → Heap → Prop} {YP : World → Heap → Prop} {d : DefRec} {K : Params → PySem.W.Frag} {CX : CXT} {sp : PySem.W.Frag → Sp} {x : Str}
    (hn : l.most = some n) (hn2 : n ≤ sizeLine) (hdf : d.params.defaults = []) (hr : Room k callerA)
    (hY : ∀ (w : World) (h : Heap), YP w h → (K w.params).In h)
    (F : ∀ (w : World) (mg : Str → Option Value) (fa : Addr) (h : Heap), (K w.params).In h → h.Ns mainGlobals mg → mg d.name = some (.ref fa) →
      ∃ fd : FuncData, (∀ (s : Shared) (u : Value), BindsTo s fd ⟨[u], []⟩ [(x, u)]) ∧
        ∀ base : Heap, (K w.params).In base → base.Ns mainGlobals mg → FnOk l.prog w (K w.params) mg base CX k fa fd [x] (sp (K w.params)))
    (hsp : ∀ (K : PySem.W.Frag) (H : Hp) (a : Addr) (ns : List Int), ns.length ≤ n → Only H → SqL K H a (ns.map V.int) → sp K [.ref a] H (fun v _ => v = .bl true) fun _ _ _ => False)
    (hCX : ∀ (H : Hp) (s : Shared) (e : Value) (s' : Shared), CX [] H s (fun _ _ _ => False) e s' → False) :
    PySem.W.WalkO q loose XP YP l.row.toRowW d [] (fun f vs => PySem.call f vs) :=
  walk_of (K := K) (CX := fun _ => CX) (sp := fun w => sp (K w.params)) hn hn2 hdf hr hY F (fun w H a ns h1 h2 h3 => hsp (K w.params) H a ns h1 h2 h3) fun _ H s e s' => hCX H s e s'
end L2
namespace L2
open PySem PySem.Spec PyProof.Rows
def inClass (s : Stmt) (j : Nat) : Stmt := match s with
  | .ClassDef _ _ _ body _ _ _ _ _ _ _ => body.getD j (.Pass ⟨0, 0, 0, 0⟩)
  | _ => .Pass ⟨0, 0, 0, 0⟩
def defArgs (s : Stmt) : Arguments := match s with
  | .FunctionDef _ a _ _ _ _ _ _ _ _ => a
  | _ => { posonlyargs := [], args := [], vararg := none, kwonlyargs := [], kw_defaults := [], kwarg := none, defaults := [] }
def defBody (s : Stmt) : List Stmt := match s with
  | .FunctionDef _ _ b _ _ _ _ _ _ _ => b
  | _ => []
def defScope (s : Stmt) : Scope := match s with
  | .FunctionDef _ _ _ _ _ _ sc _ _ _ => sc
  | _ => { kind := .function, names := [], isGenerator := false, isCoroutine := false }
abbrev CX0 : CXT := fun _ _ _ _ _ _ => False
abbrev E0 : XK := fun _ _ _ => False
theorem pass0 {X : Cx} : Passes CX0 X E0 := fun _ _ _ _ _ _ _ h => h.elim
structure Fun (K : PySem.W.Frag) (x qual : Str) (st : Stmt) (f : Addr) (fd : FuncData) : Prop where
  ex : ∃ (oc : Value) (od : Option Addr) (kV doc pm : Value) (an : Option Addr) (cdv ct : Value) (osl : Array (Option Value)),
    fd = PySem.W.fnOf x qual (defArgs st) (defBody st) (defScope st) .none kV doc pm an cdv ct ∧ K.lookup f = some ⟨oc, od, .func fd, osl⟩ ∧ PySem.W.codeIn K cdv qual = true
  kp : PySem.W.keepIn K (.ref f) = true
section
variable {P : Program} {w : World} {K : PySem.W.Frag} {mg : Str → Option Value} {base : Heap}
theorem Fun.ok {x qual : Str} {st : Stmt} {f : Addr} {fd : FuncData} {N ps : List Str} {k : Nat} {sp : Sp} (F : Fun K x qual st f fd) (S : FnScope N ps (defScope st)) (len : ∀ vs H Q E, sp vs H Q E → vs.length = ps.length)
    (hbody : ∀ (cdv : Value) (A : Around) (outer : List Env) (s : Shared) (H : Hp) (vs : List V) (Q : VK) (E : XK), Room k (A.deeper (envOfC qual (defScope st) s.heap.objs.size f cdv)) → sp vs H Q E →
      ∃ t, PSs (cxOf CX0 P w K mg base N qual (defScope st) f cdv A outer s H E).nox (defBody st) t ∧ t { nx := fun _ H' => Q .non H', rt := Q } (start N vs) H) : FnOk P w K mg base CX0 (k + 1) f fd ps sp := by
  obtain ⟨oc, od, kV, doc, pm, an, cdv, ct, osl, rfl, lk, hcd⟩ := F.ex
  refine fn_of lk hcd S len fun A outer s H vs Q E hr hsp => ?_
  obtain ⟨t, h, q⟩ := hbody cdv A outer s H vs Q E hr hsp
  exact ⟨t, h.nox, q⟩
theorem Fun.binds {x qual : Str} {st : Stmt} {f : Addr} {fd : FuncData} {ps : List Str} (F : Fun K x qual st f fd)
    (h : ∀ (kV doc pm : Value) (an : Option Addr) (cdv ct : Value) (us : List Value), us.length = ps.length → bindArgs (PySem.W.fnOf x qual (defArgs st) (defBody st) (defScope st) .none kV doc pm an cdv ct) ⟨us, []⟩ = pure (ps.zip us)) : Binds K fd ps [] := by
  obtain ⟨oc, od, kV, doc, pm, an, cdv, ct, osl, rfl, lk, hcd⟩ := F.ex
  exact .all (h kV doc pm an cdv ct)
theorem fun_mk {x qual : Str} {st : Stmt} {f : Addr} {oc : Value} {od an : Option Addr} {osl : Array (Option Value)} {kV doc pm cdv ct : Value} (l : K.lookup f = some ⟨oc, od, .func (PySem.W.fnOf x qual (defArgs st) (defBody st) (defScope st) .none kV doc pm an cdv ct), osl⟩)
    (c : PySem.W.codeIn K cdv qual = true) (k : PySem.W.keepIn K (.ref f) = true) : Fun K x qual st f (PySem.W.fnOf x qual (defArgs st) (defBody st) (defScope st) .none kV doc pm an cdv ct) := ⟨⟨oc, od, kV, doc, pm, an, cdv, ct, osl, rfl, l, c⟩, k⟩
end
theorem hu_of {A : Around} {k : Nat} (hr : Room k A) : A.units + 1 < cLine := Nat.lt_of_le_of_lt (Nat.add_le_add_left (by decide : 1 ≤ 64) _) hr.units
section
variable {X : Cx}
theorem call_lenD : CallR X (.builtin "len") (fun xs H Q => ∃ a kvs, xs = [V.ref a] ∧ H a = some (.dK kvs) ∧ Q (.int kvs.length) H) := by
  intro pins s σ H xs us Q I r h
  obtain ⟨a, kvs, rfl, ha, q⟩ := h
  obtain ⟨u, rfl, ru⟩ := vals1 r
  cases ru
  exact d_len I (.inl ha) fun t s' I' => ⟨.int kvs.length, H, I', ⟨t, rfl⟩, q⟩
end
theorem iteF {A B : Prop} (h : B) : if false = true then A else B := by
  rw [if_neg Bool.false_ne_true]
  exact h
theorem iteT {A B : Prop} (h : A) : if true = true then A else B := by
  rw [if_pos rfl]
  exact h
section
variable {κ : Type} [DecidableEq κ]
end
end L2
namespace L3
open PySem PySem.Spec L2
open PyProof.Rows hiding St
inductive W where
  | non | bl (b : Bool) | int (i : Int) | str (x : Str) | ref (a : Addr) | ty (n : String) | tup (ws : List W) | scr (ws : List W) | lst (ws : List W)
mutual
def W.beq : W → W → Bool
  | .non, .non => true
  | .bl a, .bl b => a == b
  | .int a, .int b => a == b
  | .str a, .str b => decide (a = b)
  | .ref a, .ref b => a == b
  | .ty a, .ty b => a == b
  | .tup a, .tup b => W.beqs a b
  | .scr a, .scr b => W.beqs a b
  | .lst a, .lst b => W.beqs a b
  | _, _ => false
def W.beqs : List W → List W → Bool
  | [], [] => true
  | a :: x, b :: y => W.beq a b && W.beqs x y
  | _, _ => false
end
mutual
theorem W.beq_iff : ∀ a b, W.beq a b = true ↔ a = b
  | .tup a, b => by
    cases b with
    | tup b => rw [W.beq, W.beqs_iff a b]; exact ⟨fun h => by rw [h], fun h => by injection h⟩
    | _ => simp [W.beq]
  | .scr a, b => by
    cases b with
    | scr b => rw [W.beq, W.beqs_iff a b]; exact ⟨fun h => by rw [h], fun h => by injection h⟩
    | _ => simp [W.beq]
  | .lst a, b => by
    cases b with
    | lst b => rw [W.beq, W.beqs_iff a b]; exact ⟨fun h => by rw [h], fun h => by injection h⟩
    | _ => simp [W.beq]
  | .non, b => by cases b <;> simp [W.beq]
  | .bl a, b => by cases b <;> simp [W.beq]
  | .int a, b => by cases b <;> simp [W.beq]
  | .str a, b => by cases b <;> simp [W.beq]
  | .ref a, b => by cases b <;> simp [W.beq]
  | .ty a, b => by cases b <;> simp [W.beq]
theorem W.beqs_iff : ∀ a b, W.beqs a b = true ↔ a = b
  | [], [] => by simp [W.beqs]
  | [], _ :: _ => by simp [W.beqs]
  | _ :: _, [] => by simp [W.beqs]
  | a :: x, b :: y => by rw [W.beqs, Bool.and_eq_true, W.beq_iff a b, W.beqs_iff x y]; exact ⟨fun ⟨p, q⟩ => by rw [p, q], fun h => by injection h with p q; exact ⟨p, q⟩⟩
end
instance : DecidableEq W := fun a b => decidable_of_iff _ (W.beq_iff a b)
structure TX (H H' : Hp) : Prop where
  tup : ∀ b xs, H b = some (.tup xs) → H' b = some (.tup xs)
  frz : ∀ b o u, H b = some (.frz o u) → H' b = some (.frz o u)
theorem TX.refl (H : Hp) : TX H H := ⟨fun _ _ h => h, fun _ _ _ h => h⟩
theorem TX.trans {H H1 H2 : Hp} (a : TX H H1) (b : TX H1 H2) : TX H H2 := ⟨fun c o h => b.tup c o (a.tup c o h), fun c o u h => b.frz c o u (a.frz c o u h)⟩
theorem TX.fresh {H : Hp} {p : Addr} {o : HO} (h : H p = none) : TX H (upd H p o) :=
  ⟨fun c xs e => by rw [upd_ne (ne_of_none e h)]; exact e, fun c ob u e => by rw [upd_ne (ne_of_none e h)]; exact e⟩
theorem TX.write {H : Hp} {p : Addr} {o : HO} (mu : Mut (H p)) : TX H (upd H p o) :=
  ⟨fun c xs e => by rw [upd_ne (fun z => by subst z; rw [e] at mu; exact mu)]; exact e, fun c ob u e => by rw [upd_ne (fun z => by subst z; rw [e] at mu; exact mu)]; exact e⟩
def FrzL (K : PySem.W.Frag) (H : Hp) (a : Addr) (vs : List V) : Prop :=
  (∃ o, H a = some (.frz o (.lst vs))) ∨ ∃ (o : Obj) (its : Array Value) (n : Nat), K.lookup a = some o ∧ o.cls = .type "list" ∧ o.dict = none ∧ o.data = .seq its n ∧ its.size ≤ sizeLine ∧ Vals vs its.toList
theorem FrzL.sq {K : PySem.W.Frag} {H : Hp} {a : Addr} {vs : List V} (h : FrzL K H a vs) : SqL K H a vs := by
  rcases h with ⟨o, h⟩ | h
  · exact .inl (.inr ⟨o, h⟩)
  · exact .inr h
theorem FrzL.mono {K : PySem.W.Frag} {H H' : Hp} {a : Addr} {vs : List V} (h : FrzL K H a vs) (t : TX H H') : FrzL K H' a vs := by
  rcases h with ⟨o, h⟩ | h
  · exact .inl ⟨o, t.frz _ _ _ h⟩
  · exact .inr h
theorem _root_.L2.TupAt.sq {K : PySem.W.Frag} {H : Hp} {a : Addr} {vs : List V} (h : TupAt K H a vs) : SqT K H a vs := by
  rcases h with h | h
  · exact .inl (.inl h)
  · exact .inr h
mutual
inductive Rep (K : PySem.W.Frag) (H : Hp) : W → V → Prop
  | non : Rep K H .non .non
  | bl (b : Bool) : Rep K H (.bl b) (.bl b)
  | int (i : Int) : Rep K H (.int i) (.int i)
  | str (x : Str) : Rep K H (.str x) (.str x)
  | ref (a : Addr) : Rep K H (.ref a) (.ref a)
  | ty (n : String) : Rep K H (.ty n) (.ty n)
  | tup {a : Addr} {vs : List V} {ws : List W} : TupAt K H a vs → Reps K H ws vs → Rep K H (.tup ws) (.ref a)
  | scr {a : Addr} {vs : List V} {ws : List W} : FrzL K H a vs → Reps K H ws vs → Rep K H (.scr ws) (.ref a)
inductive Reps (K : PySem.W.Frag) (H : Hp) : List W → List V → Prop
  | nil : Reps K H [] []
  | cons {w : W} {v : V} {ws : List W} {vs : List V} : Rep K H w v → Reps K H ws vs → Reps K H (w :: ws) (v :: vs)
end
mutual
theorem Rep.mono {K : PySem.W.Frag} {H H' : Hp} (t : TX H H') : ∀ {w : W} {v : V}, Rep K H w v → Rep K H' w v
  | _, _, .non => .non
  | _, _, .bl b => .bl b
  | _, _, .int i => .int i
  | _, _, .str x => .str x
  | _, _, .ref a => .ref a
  | _, _, .ty n => .ty n
  | _, _, .tup h r => .tup (h.mono t.tup) (Reps.mono t r)
  | _, _, .scr h r => .scr (h.mono t) (Reps.mono t r)
theorem Reps.mono {K : PySem.W.Frag} {H H' : Hp} (t : TX H H') : ∀ {ws : List W} {vs : List V}, Reps K H ws vs → Reps K H' ws vs
  | _, _, .nil => .nil
  | _, _, .cons a b => .cons (Rep.mono t a) (Reps.mono t b)
end
section
variable {K : PySem.W.Frag} {H : Hp}
theorem Reps.length : ∀ {ws : List W} {vs : List V}, Reps K H ws vs → ws.length = vs.length
  | _, _, .nil => rfl
  | _, _, .cons _ b => by simp [Reps.length b]
theorem Reps.get : ∀ {ws : List W} {vs : List V} {i : Nat} {w : W}, Reps K H ws vs → ws[i]? = some w → ∃ v, vs[i]? = some v ∧ Rep K H w v
  | _, _, _, _, .nil, e => by simp at e
  | _, _, 0, _, .cons r _, e => by simp at e; subst e; exact ⟨_, rfl, r⟩
  | _, _, i + 1, w, .cons _ t, e => by
    obtain ⟨u, h1, h2⟩ := Reps.get (i := i) (w := w) t (by simpa using e)
    exact ⟨u, by simpa using h1, h2⟩
theorem Reps.append : ∀ {ws ws' : List W} {vs vs' : List V}, Reps K H ws vs → Reps K H ws' vs' → Reps K H (ws ++ ws') (vs ++ vs')
  | _, _, _, _, .nil, s => s
  | _, _, _, _, .cons r t, s => .cons r (Reps.append t s)
theorem Reps.take : ∀ {ws : List W} {vs : List V} (n : Nat), Reps K H ws vs → Reps K H (ws.take n) (vs.take n)
  | _, _, 0, _ => .nil
  | _, _, _ + 1, .nil => .nil
  | _, _, n + 1, .cons r t => .cons r (Reps.take n t)
theorem Reps.drop : ∀ {ws : List W} {vs : List V} (n : Nat), Reps K H ws vs → Reps K H (ws.drop n) (vs.drop n)
  | _, _, 0, r => r
  | _, _, _ + 1, .nil => .nil
  | _, _, n + 1, .cons _ t => Reps.drop n t
theorem Reps.set {w : W} {v : V} (r : Rep K H w v) : ∀ {ws : List W} {vs : List V} (i : Nat), Reps K H ws vs → Reps K H (ws.set i w) (vs.set i v)
  | _, _, _, .nil => .nil
  | _, _, 0, .cons _ t => .cons r t
  | _, _, i + 1, .cons q t => .cons q (Reps.set r i t)
theorem Reps.rep {ws : List W} {vs : List V} (r : Reps K H ws vs) : ∀ n : Nat, Reps K H (List.replicate n ws).flatten (List.replicate n vs).flatten
  | 0 => .nil
  | n + 1 => by rw [List.replicate_succ, List.replicate_succ, List.flatten_cons, List.flatten_cons]; exact r.append (r.rep n)
theorem Reps.nil_iff {ws : List W} {vs : List V} (r : Reps K H ws vs) : ws = [] ↔ vs = [] := by
  cases r with
  | nil => simp
  | cons _ _ => simp
end
inductive WO where
  | lst (ws : List W)
  | dct (t : Bool) (kvs : List (W × W))
  | ins (C : Addr) (fs : List (Str × W))
abbrev WH := Addr → Option WO
def gup (G : WH) (a : Addr) (o : WO) : WH := fun b => if b = a then some o else G b
theorem gup_same {G : WH} {a : Addr} {o : WO} : gup G a o a = some o := by unfold gup; rw [if_pos rfl]
theorem gup_ne {G : WH} {a b : Addr} {o : WO} (h : b ≠ a) : gup G a o b = G b := by unfold gup; rw [if_neg h]
theorem gne_of_none {G : WH} {a b : Addr} {o : WO} (h : G a = some o) (h' : G b = none) : a ≠ b := by
  intro e; subst e; rw [h] at h'; cases h'
def keyS : Key → W
  | .inl i => .int i
  | .inr x => .str x
theorem keyS_inj {a b : Key} (e : keyS a = keyS b) : a = b := by
  cases a <;> cases b <;> simp [keyS] at e <;> simp [e]
theorem keySs_inj : ∀ {a b : List Key}, a.map keyS = b.map keyS → a = b
  | [], [], _ => rfl
  | [], _ :: _, e => by simp at e
  | _ :: _, [], e => by simp at e
  | a :: x, b :: y, e => by
    simp only [List.map_cons, List.cons.injEq] at e
    rw [keyS_inj e.1, keySs_inj e.2]
def ORel (K : PySem.W.Frag) (H : Hp) (a : Addr) : WO → Prop
  | .lst ws => ∃ vs, H a = some (.lst vs) ∧ Reps K H ws vs
  | .dct false kvs => ∃ ks : List (Key × V), H a = some (.dK ks) ∧ Paired (fun (p : W × W) (q : Key × V) => p.1 = keyS q.1 ∧ Rep K H p.2 q.2) kvs ks
  | .dct true kvs => ∃ ks : List (List Key × V), H a = some (.dT ks) ∧ Paired (fun (p : W × W) (q : List Key × V) => p.1 = .tup (q.1.map keyS) ∧ Rep K H p.2 q.2) kvs ks
  | .ins C fs => ∃ dx gs, H a = some (.ins C dx gs) ∧ Paired (fun (p : Str × W) (q : Str × V) => p.1 = q.1 ∧ Rep K H p.2 q.2) fs gs
def Sim (K : PySem.W.Frag) (G : WH) (H : Hp) : Prop := ∀ a o, G a = some o → ORel K H a o
section
variable {K : PySem.W.Frag} {G : WH} {H H' : Hp} {a p : Addr} {o o' : WO} {ho : HO}
theorem ORel.l {vs : List V} {ws : List W} (h : H a = some (.lst vs)) (r : Reps K H ws vs) : ORel K H a (.lst ws) := ⟨vs, h, r⟩
theorem ORel.dk {kvs : List (W × W)} {ks : List (Key × V)} (h : H a = some (.dK ks)) (r : Paired (fun (p : W × W) (q : Key × V) => p.1 = keyS q.1 ∧ Rep K H p.2 q.2) kvs ks) : ORel K H a (.dct false kvs) := ⟨ks, h, r⟩
theorem ORel.dt {kvs : List (W × W)} {ks : List (List Key × V)} (h : H a = some (.dT ks)) (r : Paired (fun (p : W × W) (q : List Key × V) => p.1 = .tup (q.1.map keyS) ∧ Rep K H p.2 q.2) kvs ks) : ORel K H a (.dct true kvs) := ⟨ks, h, r⟩
theorem ORel.i {C dx : Addr} {fs : List (Str × W)} {gs : List (Str × V)} (h : H a = some (.ins C dx gs)) (r : Paired (fun (p : Str × W) (q : Str × V) => p.1 = q.1 ∧ Rep K H p.2 q.2) fs gs) : ORel K H a (.ins C fs) := ⟨dx, gs, h, r⟩
theorem ORel.mut (h : ORel K H a o) : Mut (H a) := by
  cases o with
  | lst ws => obtain ⟨vs, e, _⟩ := h; rw [e]; exact True.intro
  | dct t kvs => cases t <;> (obtain ⟨vs, e, _⟩ := h; rw [e]; exact True.intro)
  | ins C fs => obtain ⟨dx, vs, e, _⟩ := h; rw [e]; exact True.intro
theorem ORel.keep (h : ORel K H a o) (e : H' a = H a) (t : TX H H') : ORel K H' a o := by
  cases o with
  | lst ws => obtain ⟨vs, q, r⟩ := h; exact ⟨vs, e.trans q, r.mono t⟩
  | dct b kvs =>
    cases b with
    | false => obtain ⟨vs, q, r⟩ := h; exact ⟨vs, e.trans q, Paired.mapP r fun _ _ z => ⟨z.1, z.2.mono t⟩⟩
    | true => obtain ⟨vs, q, r⟩ := h; exact ⟨vs, e.trans q, Paired.mapP r fun _ _ z => ⟨z.1, z.2.mono t⟩⟩
  | ins C fs => obtain ⟨dx, vs, q, r⟩ := h; exact ⟨dx, vs, e.trans q, Paired.mapP r fun _ _ z => ⟨z.1, z.2.mono t⟩⟩
theorem Sim.yes (s : Sim K G H) (e : G a = some o) : H a ≠ none := fun z => by
  have m := (s a o e).mut
  rw [z] at m; exact m
theorem Sim.no (s : Sim K G H) (e : H a = none) : G a = none := by
  cases q : G a with
  | none => rfl
  | some o => exact absurd e (s.yes q)
theorem Sim.fresh (s : Sim K G H) (h : H p = none) : Sim K G (upd H p ho) := fun b u e =>
  (s b u e).keep (upd_ne fun z => s.yes e (by rw [z]; exact h)) (.fresh h)
theorem Sim.laid (s : Sim K G H) (h : H p = none) (new : ORel K (upd H p ho) p o) : Sim K (gup G p o) (upd H p ho) := fun b u e => by
  by_cases hb : b = p
  · subst hb; rw [gup_same] at e; cases e; exact new
  · rw [gup_ne hb] at e; exact s.fresh h b u e
theorem Sim.write (s : Sim K G H) (mu : Mut (H p)) (new : ORel K (upd H p ho) p o) : Sim K (gup G p o) (upd H p ho) := fun b u e => by
  by_cases hb : b = p
  · subst hb; rw [gup_same] at e; cases e; exact new
  · rw [gup_ne hb] at e; exact (s b u e).keep (upd_ne hb) (.write mu)
theorem Sim.less {G' : WH} (s : Sim K G H) (h : ∀ b u, G' b = Option.some u → G b = Option.some u) : Sim K G' H := fun b u e => s b u (h b u e)
end
abbrev St2 := List (Option W)
structure SimS (K : PySem.W.Frag) (H : Hp) (τ : St2) (σ : St) : Prop where
  len : τ.length = σ.length
  at' : ∀ (i : Nat) (w : W), τ[i]? = some (some w) → ∃ v, σ[i]? = some (some v) ∧ Rep K H w v
theorem SimS.mono {K : PySem.W.Frag} {H H' : Hp} {τ : St2} {σ : St} (s : SimS K H τ σ) (t : TX H H') : SimS K H' τ σ :=
  ⟨s.len, fun i w e => let ⟨v, a, b⟩ := s.at' i w e; ⟨v, a, b.mono t⟩⟩
theorem SimS.set {K : PySem.W.Frag} {H : Hp} {τ : St2} {σ : St} (s : SimS K H τ σ) {w : W} {v : V} (r : Rep K H w v) (i : Nat) : SimS K H (τ.set i (some w)) (σ.set i (some v)) := by
  refine ⟨by simp [s.len], fun j u e => ?_⟩
  by_cases hj : j = i
  · subst hj
    have hl : j < τ.length := by
      have := (List.getElem?_eq_some_iff.mp e).1
      simpa using this
    rw [List.getElem?_set_self hl] at e
    cases e
    exact ⟨v, List.getElem?_set_self (by rw [← s.len]; exact hl), r⟩
  · rw [List.getElem?_set_ne (Ne.symm hj)] at e
    obtain ⟨x, a, b⟩ := s.at' j u e
    exact ⟨x, by rw [List.getElem?_set_ne (Ne.symm hj)]; exact a, b⟩
abbrev VK2 := W → WH → Prop
abbrev TE2 := St2 → WH → VK2 → Prop
abbrev TT2 := St2 → WH → (Bool → WH → Prop) → Prop
abbrev TA2 := St2 → WH → (List W → WH → Prop) → Prop
structure Ends2 where
  nx : St2 → WH → Prop
  rt : VK2
  bk : St2 → WH → Prop := fun _ _ => False
  ct : St2 → WH → Prop := fun _ _ => False
abbrev TS2 := Ends2 → St2 → WH → Prop
def Cont (K : PySem.W.Frag) (H : Hp) (Q2 : VK2) (Q : VK) : Prop := ∀ v H' w G', TX H H' → Sim K G' H' → Rep K H' w v → Q2 w G' → Q v H'
def ContB (K : PySem.W.Frag) (H : Hp) (Q2 : Bool → WH → Prop) (Q : Bool → Hp → Prop) : Prop := ∀ b H' G', TX H H' → Sim K G' H' → Q2 b G' → Q b H'
def ContA (K : PySem.W.Frag) (H : Hp) (Q2 : List W → WH → Prop) (Q : List V → Hp → Prop) : Prop := ∀ vs H' ws G', TX H H' → Sim K G' H' → Reps K H' ws vs → Q2 ws G' → Q vs H'
def ContS (K : PySem.W.Frag) (H : Hp) (Q2 : St2 → WH → Prop) (Q : St → Hp → Prop) : Prop := ∀ σ' H' τ' G', TX H H' → SimS K H' τ' σ' → Sim K G' H' → Q2 τ' G' → Q σ' H'
structure EndsLe (K : PySem.W.Frag) (H : Hp) (D2 : Ends2) (D : Ends) : Prop where
  nx : ContS K H D2.nx D.nx
  rt : Cont K H D2.rt D.rt
  bk : ContS K H D2.bk D.bk
  ct : ContS K H D2.ct D.ct
section
variable {K : PySem.W.Frag} {H H' : Hp}
theorem Cont.mono {Q2 : VK2} {Q : VK} (c : Cont K H Q2 Q) (t : TX H H') : Cont K H' Q2 Q := fun v H1 w G1 t1 => c v H1 w G1 (t.trans t1)
theorem ContB.mono {Q2 : Bool → WH → Prop} {Q : Bool → Hp → Prop} (c : ContB K H Q2 Q) (t : TX H H') : ContB K H' Q2 Q := fun b H1 G1 t1 => c b H1 G1 (t.trans t1)
theorem ContS.mono {Q2 : St2 → WH → Prop} {Q : St → Hp → Prop} (c : ContS K H Q2 Q) (t : TX H H') : ContS K H' Q2 Q := fun v H1 w G1 t1 => c v H1 w G1 (t.trans t1)
theorem EndsLe.mono {D2 : Ends2} {D : Ends} (c : EndsLe K H D2 D) (t : TX H H') : EndsLe K H' D2 D := ⟨c.nx.mono t, c.rt.mono t, c.bk.mono t, c.ct.mono t⟩
end
def low (K : PySem.W.Frag) (t : TE2) : TE := fun σ H Q => ∃ τ G Q2, SimS K H τ σ ∧ Sim K G H ∧ t τ G Q2 ∧ Cont K H Q2 Q
def lowT (K : PySem.W.Frag) (t : TT2) : TT := fun σ H Q => ∃ τ G Q2, SimS K H τ σ ∧ Sim K G H ∧ t τ G Q2 ∧ ContB K H Q2 Q
def lowA (K : PySem.W.Frag) (t : TA2) : TA := fun σ H Q => ∃ τ G Q2, SimS K H τ σ ∧ Sim K G H ∧ t τ G Q2 ∧ ContA K H Q2 Q
def lowS (K : PySem.W.Frag) (t : TS2) : TS := fun D σ H => ∃ τ G D2, SimS K H τ σ ∧ Sim K G H ∧ t D2 τ G ∧ EndsLe K H D2 D
@[irreducible] def PE2 (X : Cx) (e : Expr) (t : TE2) : Prop := PE X e (low X.K t)
@[irreducible] def PT2 (X : Cx) (e : Expr) (t : TT2) : Prop := PT X e (lowT X.K t)
@[irreducible] def PW2 (X : Cx) (e : Expr) (t : TT2) : Prop := PW X e (lowT X.K t)
@[irreducible] def PA2 (X : Cx) (es : List Expr) (t : TA2) : Prop := PA X es (lowA X.K t)
@[irreducible] def PS2 (X : Cx) (st : Stmt) (t : TS2) : Prop := PS X st (lowS X.K t)
@[irreducible] def PSs2 (X : Cx) (st : List Stmt) (t : TS2) : Prop := PSs X st (lowS X.K t)
section
variable {X : Cx} {e : Expr} {es : List Expr} {st : Stmt} {sts : List Stmt}
theorem PE.imp {t t' : TE} (h : PE X e t) (le : ∀ σ H Q, t' σ H Q → t σ H Q) : PE X e t' := fun pins s σ H Q I q => h pins s σ H Q I (le σ H Q q)
theorem PT.imp {t t' : TT} (h : PT X e t) (le : ∀ σ H Q, t' σ H Q → t σ H Q) : PT X e t' := fun pins s σ H Q I q => h pins s σ H Q I (le σ H Q q)
theorem PW.imp {t t' : TT} (h : PW X e t) (le : ∀ σ H Q, t' σ H Q → t σ H Q) : PW X e t' := fun wh pins s σ H Q I q => h wh pins s σ H Q I (le σ H Q q)
theorem PA.imp {t t' : TA} (h : PA X es t) (le : ∀ σ H Q, t' σ H Q → t σ H Q) : PA X es t' := fun pos pins s σ H Q I q => h pos pins s σ H Q I (le σ H Q q)
theorem PS.imp {t t' : TS} (h : PS X st t) (le : ∀ D σ H, t' D σ H → t D σ H) : PS X st t' := fun pins s σ H D I q => h pins s σ H D I (le D σ H q)
theorem PSs.imp {t t' : TS} (h : PSs X sts t) (le : ∀ D σ H, t' D σ H → t D σ H) : PSs X sts t' := fun pins s σ H D I q => h pins s σ H D I (le D σ H q)
theorem PW2.pt {t : TT2} (h : PW2 X e t) : PT2 X e t := by
  simp only [PT2, PW2] at *
  exact (PW.pt h)
end
end L3
namespace L3
open PySem PySem.Spec L2
open PyProof.Rows hiding St
mutual
def eqD : W → W → Bool
  | .bl a, .bl b => a == b
  | .bl a, .int b => (if a then 1 else 0) == b
  | .int a, .bl b => a == (if b then 1 else 0)
  | .int a, .int b => a == b
  | .tup a, .tup b => eqDs a b
  | .lst a, .lst b => eqDs a b
  | .non, .non => true
  | .str a, .str b => a == b
  | .ref a, .ref b => a == b
  | .ty a, .ty b => a == b
  | .scr a, .scr b => eqDs a b
  | _, _ => false
def eqDs : List W → List W → Bool
  | [], [] => true
  | a :: x, b :: y => eqD a b && eqDs x y
  | _, _ => false
end
mutual
theorem eqD_refl : ∀ a : W, eqD a a = true
  | .non => by simp [eqD]
  | .bl _ => by simp [eqD]
  | .int _ => by simp [eqD]
  | .str _ => by simp [eqD]
  | .ref _ => by simp [eqD]
  | .ty _ => by simp [eqD]
  | .tup a => by rw [eqD]; exact eqDs_refl a
  | .scr a => by rw [eqD]; exact eqDs_refl a
  | .lst a => by rw [eqD]; exact eqDs_refl a
theorem eqDs_refl : ∀ a : List W, eqDs a a = true
  | [] => by simp [eqDs]
  | a :: x => by rw [eqDs, eqD_refl a, eqDs_refl x]; rfl
end
theorem eqDs_len : ∀ {a b : List W}, a.length ≠ b.length → eqDs a b = false
  | [], [], h => absurd rfl h
  | [], _ :: _, _ => by simp [eqDs]
  | _ :: _, [], _ => by simp [eqDs]
  | a :: x, b :: y, h => by rw [eqDs, eqDs_len (a := x) (b := y) (by intro z; exact h (by simp [z])), Bool.and_false]
theorem eqDs_range : ∀ (a b : List W) (e : Nat → Bool), a.length = b.length → (∀ (i : Nat) x y, a[i]? = some x → b[i]? = some y → e i = eqD x y) → (List.range a.length).all e = eqDs a b
  | [], [], _, _, _ => by simp [eqDs]
  | [], _ :: _, _, h, _ => by simp at h
  | _ :: _, [], _, h, _ => by simp at h
  | a :: x, b :: y, e, h, q => by
    have ih := eqDs_range x y (fun i => e (i + 1)) (by simpa using h) fun i u v hu hv => q (i + 1) u v (by simpa using hu) (by simpa using hv)
    rw [eqDs, ← ih, ← q 0 a b rfl rfl, List.length_cons, List.range_succ_eq_map, List.all_cons, List.all_map]
    rfl
mutual
inductive DV (h : Heap) : W → Value → Prop
  | non : DV h .non .none
  | bl (b : Bool) : DV h (.bl b) (.bool b)
  | int (i : Int) (t : Tok) : DV h (.int i) (.int i t)
  | str (x : Str) (t : Tok) : DV h (.str x) (.str x t)
  | tup {a : Addr} {its : List Value} {ws : List W} : h.IsTuple a its.toArray → DVs h ws its → DV h (.tup ws) (.ref a)
  | lst {a : Addr} {its : List Value} {ws : List W} : h.IsList a its.toArray → DVs h ws its → DV h (.lst ws) (.ref a)
inductive DVs (h : Heap) : List W → List Value → Prop
  | nil : DVs h [] []
  | cons {w : W} {v : Value} {ws : List W} {vs : List Value} : DV h w v → DVs h ws vs → DVs h (w :: ws) (v :: vs)
end
theorem isTuple_inj {h : Heap} {a : Addr} {x y : List Value} (p : h.IsTuple a x.toArray) (q : h.IsTuple a y.toArray) : x = y := by
  obtain ⟨o, e, _, n, d⟩ := p
  obtain ⟨o', e', _, n', d'⟩ := q
  rw [e] at e'; cases e'
  rw [d] at d'; injection d' with d1 _
  simpa using congrArg Array.toList d1
theorem isList_inj {h : Heap} {a : Addr} {x y : List Value} (p : h.IsList a x.toArray) (q : h.IsList a y.toArray) : x = y := by
  obtain ⟨o, e, _, n, d⟩ := p
  obtain ⟨o', e', _, n', d'⟩ := q
  rw [e] at e'; cases e'
  rw [d] at d'; injection d' with d1 _
  simpa using congrArg Array.toList d1
theorem not_both {h : Heap} {a : Addr} {x y : Array Value} (p : h.IsTuple a x) (q : h.IsList a y) : False := by
  obtain ⟨o, e, c, _⟩ := p
  obtain ⟨o', e', c', _⟩ := q
  rw [e] at e'; cases e'
  rw [c] at c'
  injection c' with c''
  revert c''; decide
mutual
theorem DV.inj {h : Heap} : ∀ {d e : W} {u : Value}, DV h d u → DV h e u → d = e
  | _, _, _, .non, .non => rfl
  | _, _, _, .bl _, .bl _ => rfl
  | _, _, _, .int _ _, .int _ _ => rfl
  | _, _, _, .str _ _, .str _ _ => rfl
  | _, _, _, .tup p r, .tup q r' => by cases isTuple_inj p q; rw [DVs.inj r r']
  | _, _, _, .lst p r, .lst q r' => by cases isList_inj p q; rw [DVs.inj r r']
  | _, _, _, .tup p _, .lst q _ => (not_both p q).elim
  | _, _, _, .lst p _, .tup q _ => (not_both q p).elim
theorem DVs.inj {h : Heap} : ∀ {d e : List W} {u : List Value}, DVs h d u → DVs h e u → d = e
  | _, _, _, .nil, .nil => rfl
  | _, _, _, .cons a x, .cons b y => by rw [DV.inj a b, DVs.inj x y]
end
theorem DVs.length {h : Heap} : ∀ {ws : List W} {vs : List Value}, DVs h ws vs → ws.length = vs.length
  | _, _, .nil => rfl
  | _, _, .cons _ b => by simp [DVs.length b]
theorem DVs.get' {h : Heap} : ∀ {ws : List W} {vs : List Value} {i : Nat} {v : Value}, DVs h ws vs → vs[i]? = some v → ∃ w, ws[i]? = some w ∧ DV h w v
  | _, _, _, _, .nil, e => by simp at e
  | _, _, 0, _, .cons r _, e => by simp at e; subst e; exact ⟨_, rfl, r⟩
  | _, _, i + 1, w, .cons _ t, e => by
    obtain ⟨u, h1, h2⟩ := DVs.get' (i := i) (v := w) t (by simpa using e)
    exact ⟨u, by simpa using h1, h2⟩
inductive Dep : Nat → W → Prop
  | flat {n : Nat} {w : W} (h : ∀ ws, w ≠ .tup ws ∧ w ≠ .lst ws) : Dep n w
  | tup {n : Nat} {ws : List W} (h : ∀ w ∈ ws, Dep n w) : Dep (n + 1) (.tup ws)
  | lst {n : Nat} {ws : List W} (h : ∀ w ∈ ws, Dep n w) : Dep (n + 1) (.lst ws)
theorem units_in1 (A : Around) : A.in1.units = A.units + 1 := rfl
structure Both (A : Around) (s : Shared) (u v : Value) (b : Bool) : Prop where
  eq : SeqAt.EqAt A s u v b
  rc : SeqAt.RcAt A s u v b
  ne : SeqAt.RcNeAt A s u v (!b)
theorem range_min_eq {α β : Type} {a : List α} {b : List β} (e : Nat → Bool) (h : a.length = b.length) : ((List.range (min a.length b.length)).all e && (a.length == b.length)) = (List.range a.length).all e := by
  rw [h]; simp
section
variable {A : Around} {s : Shared}
theorem both_tup {a b : Addr} {x y : List Value} {ds es : List W} (p : s.heap.IsTuple a x.toArray) (q : s.heap.IsTuple b y.toArray) (rx : DVs s.heap ds x) (ry : DVs s.heap es y) (hu : A.units < cLine)
    (ih : ∀ d e u v, d ∈ ds → DV s.heap d u → DV s.heap e v → SeqAt.EqAt A.in1 s u v (eqD d e)) : Both A s (.ref a) (.ref b) (eqDs ds es) := by
  have hx := rx.length
  have hy := ry.length
  have pick : ∀ j (h1 : j < x.length) (h2 : j < y.length), ∃ d e, ds[j]? = some d ∧ es[j]? = some e ∧ SeqAt.EqAt A.in1 s x[j] y[j] (eqD d e) := fun j h1 h2 => by
    obtain ⟨d, hd, rd⟩ := rx.get' (i := j) (v := x[j]) (by simp [h1])
    obtain ⟨e, he, re⟩ := ry.get' (i := j) (v := y[j]) (by simp [h2])
    exact ⟨d, e, hd, he, ih d e _ _ (List.mem_of_getElem? hd) rd re⟩
  let f : Nat → Bool := fun j => match ds[j]?, es[j]? with | some d, some e => eqD d e | _, _ => true
  have hf : ∀ (i : Nat) d e, ds[i]? = some d → es[i]? = some e → f i = eqD d e := fun i d e h1 h2 => by simp only [f, h1, h2]
  have he : ∀ j (h1 : j < x.toArray.size) (h2 : j < y.toArray.size), SeqAt.EqAt A.in1 s x.toArray[j] y.toArray[j] (f j) := fun j h1 h2 => by
    obtain ⟨d, e, hd, he, q⟩ := pick j (by simpa using h1) (by simpa using h2)
    rw [hf j d e hd he]
    simpa using q
  have key : ((List.range (min x.toArray.size y.toArray.size)).all f && x.toArray.size == y.toArray.size) = eqDs ds es := by
    simp only [List.size_toArray]
    by_cases hl : ds.length = es.length
    · have hxy : x.length = y.length := by omega
      rw [range_min_eq f hxy, ← hx]
      exact eqDs_range ds es f hl hf
    · rw [eqDs_len hl]
      have : (x.length == y.length) = false := by simp; omega
      rw [this, Bool.and_false]
  by_cases hab : a = b
  · subst hab
    cases isTuple_inj p q
    cases rx.inj ry
    rw [eqDs_refl] at key ⊢
    have r1 := SeqAt.RcAt.tuples p q hu he
    have r2 := SeqAt.RcNeAt.tuples p q hu he
    rw [key] at r1 r2
    exact ⟨.same _, r1, r2⟩
  · have r1 := SeqAt.RcAt.tuples p q hu he
    have r2 := SeqAt.RcNeAt.tuples p q hu he
    rw [key] at r1 r2
    exact ⟨.of_refs hab r1, r1, r2⟩
theorem both_lst {a b : Addr} {x y : List Value} {ds es : List W} (p : s.heap.IsList a x.toArray) (q : s.heap.IsList b y.toArray) (rx : DVs s.heap ds x) (ry : DVs s.heap es y) (hu : A.units < cLine)
    (ih : ∀ d e u v, d ∈ ds → DV s.heap d u → DV s.heap e v → SeqAt.EqAt A.in1 s u v (eqD d e)) : Both A s (.ref a) (.ref b) (eqDs ds es) := by
  have hx := rx.length
  have hy := ry.length
  let f : Nat → Bool := fun j => match ds[j]?, es[j]? with | some d, some e => eqD d e | _, _ => true
  have hf : ∀ (i : Nat) d e, ds[i]? = some d → es[i]? = some e → f i = eqD d e := fun i d e h1 h2 => by simp only [f, h1, h2]
  have he : ∀ j (h1 : j < x.toArray.size) (h2 : j < y.toArray.size), SeqAt.EqAt A.in1 s x.toArray[j] y.toArray[j] (f j) := fun j h1 h2 => by
    have h1' : j < x.length := by simpa using h1
    have h2' : j < y.length := by simpa using h2
    obtain ⟨d, hd, rd⟩ := rx.get' (i := j) (v := x[j]) (by simp [h1'])
    obtain ⟨e, he, re⟩ := ry.get' (i := j) (v := y[j]) (by simp [h2'])
    rw [hf j d e hd he]
    simpa using ih d e _ _ (List.mem_of_getElem? hd) rd re
  have main : SeqAt.RcAt A s (.ref a) (.ref b) (eqDs ds es) ∧ SeqAt.RcNeAt A s (.ref a) (.ref b) (!eqDs ds es) := by
    by_cases hl : ds.length = es.length
    · have hs : x.toArray.size = y.toArray.size := by simp only [List.size_toArray]; omega
      have key : (List.range x.toArray.size).all f = eqDs ds es := by
        simp only [List.size_toArray, ← hx]
        exact eqDs_range ds es f hl hf
      have r1 := SeqAt.RcAt.lists p q hs hu he
      have r2 := SeqAt.RcNeAt.lists p q hs hu he
      rw [key] at r1 r2
      exact ⟨r1, r2⟩
    · have hs : (x.toArray.size != y.toArray.size) = true := by simp; omega
      rw [eqDs_len hl]
      exact ⟨SeqAt.RcAt.lists_lengths p q hs hu, SeqAt.RcNeAt.lists_lengths p q hs hu⟩
  by_cases hab : a = b
  · subst hab
    cases isList_inj p q
    cases rx.inj ry
    refine ⟨?_, main.1, main.2⟩
    rw [eqDs_refl]
    exact .same _
  · exact ⟨.of_refs hab main.1, main.1, main.2⟩
end
theorem both_deep (s : Shared) : ∀ (n : Nat) (A : Around) (d e : W) (u v : Value), Dep n d → DV s.heap d u → DV s.heap e v → A.units + n < cLine → Both A s u v (eqD d e) := by
  intro n
  induction n with
  | zero =>
    intro A d e u v hd ru rv hu
    have hu' : A.units < cLine := by omega
    cases ru with
    | non => cases rv with
      | non => exact ⟨.same _, .none_none, .none_none⟩
      | bl b => exact ⟨.none_bool b, .none_bool b, .none_bool b⟩
      | int i t => exact ⟨.none_int i t, .none_int i t, .none_int i t⟩
      | str x t => exact ⟨.none_str x t, .none_str x t, .none_str x t⟩
      | tup p _ => exact ⟨.none_tuple p hu', .none_tuple p hu', .none_tuple p hu'⟩
      | lst p _ => exact ⟨.none_list p hu', .none_list p hu', .none_list p hu'⟩
    | bl a => cases rv with
      | non => exact ⟨.bool_none a, .bool_none a, .bool_none a⟩
      | bl b => exact ⟨.bool_bool a b, .bool_bool a b, .bool_bool a b⟩
      | int i t => exact ⟨.bool_int a i t, .bool_int a i t, .bool_int a i t⟩
      | str x t => exact ⟨.bool_str a x t, .bool_str a x t, .bool_str a x t⟩
      | tup p _ => exact ⟨.bool_tuple a p hu', .bool_tuple a p hu', .bool_tuple a p hu'⟩
      | lst p _ => exact ⟨.bool_list a p hu', .bool_list a p hu', .bool_list a p hu'⟩
    | int a ta => cases rv with
      | non => exact ⟨.int_none a ta, .int_none a ta, .int_none a ta⟩
      | bl b => exact ⟨.int_bool a ta b, .int_bool a ta b, .int_bool a ta b⟩
      | int i t => exact ⟨.int_int a ta i t, .int_int a ta i t, .int_int a ta i t⟩
      | str x t => exact ⟨.int_str a ta x t, .int_str a ta x t, .int_str a ta x t⟩
      | tup p _ => exact ⟨.int_tuple a ta p hu', .int_tuple a ta p hu', .int_tuple a ta p hu'⟩
      | lst p _ => exact ⟨.int_list a ta p hu', .int_list a ta p hu', .int_list a ta p hu'⟩
    | str a ta => cases rv with
      | non => exact ⟨.str_none a ta, .str_none a ta, .str_none a ta⟩
      | bl b => exact ⟨.str_bool a ta b, .str_bool a ta b, .str_bool a ta b⟩
      | int i t => exact ⟨.str_int a ta i t, .str_int a ta i t, .str_int a ta i t⟩
      | str x t => exact ⟨.str_str a ta x t, .str_str a ta x t, .str_str a ta x t⟩
      | tup p _ => exact ⟨.str_tuple a ta p hu', .str_tuple a ta p hu', .str_tuple a ta p hu'⟩
      | lst p _ => exact ⟨.str_list a ta p hu', .str_list a ta p hu', .str_list a ta p hu'⟩
    | tup p _ => cases hd with | flat h => exact absurd rfl (h _).1
    | lst p _ => cases hd with | flat h => exact absurd rfl (h _).2
  | succ n ih =>
    intro A d e u v hd ru rv hu
    have hu' : A.units < cLine := by omega
    have flat : (∀ ws, d ≠ .tup ws ∧ d ≠ .lst ws) → Both A s u v (eqD d e) := fun h => ih A d e u v (.flat h) ru rv (by omega)
    cases ru with
    | non => exact flat fun ws => ⟨(nomatch ·), (nomatch ·)⟩
    | bl a => exact flat fun ws => ⟨(nomatch ·), (nomatch ·)⟩
    | int a ta => exact flat fun ws => ⟨(nomatch ·), (nomatch ·)⟩
    | str a ta => exact flat fun ws => ⟨(nomatch ·), (nomatch ·)⟩
    | @tup a its ds p r =>
      have hd' : ∀ w ∈ ds, Dep n w := by
        cases hd with
        | flat h => exact absurd rfl (h _).1
        | tup h => exact h
      cases rv with
      | non => exact ⟨.tuple_none p hu', .tuple_none p hu', .tuple_none p hu'⟩
      | bl b => exact ⟨.tuple_bool b p hu', .tuple_bool b p hu', .tuple_bool b p hu'⟩
      | int i t => exact ⟨.tuple_int i t p hu', .tuple_int i t p hu', .tuple_int i t p hu'⟩
      | str x t => exact ⟨.tuple_str x t p hu', .tuple_str x t p hu', .tuple_str x t p hu'⟩
      | tup q r' =>
        rw [eqD]
        exact both_tup p q r r' hu' fun d e u v hm a b => (ih A.in1 d e u v (hd' d hm) a b (by rw [units_in1]; omega)).eq
      | lst q r' => exact ⟨.tuple_list p q hu', .tuple_list p q hu', .tuple_list p q hu'⟩
    | @lst a its ds p r =>
      have hd' : ∀ w ∈ ds, Dep n w := by
        cases hd with
        | flat h => exact absurd rfl (h _).2
        | lst h => exact h
      cases rv with
      | non => exact ⟨.list_none p hu', .list_none p hu', .list_none p hu'⟩
      | bl b => exact ⟨.list_bool b p hu', .list_bool b p hu', .list_bool b p hu'⟩
      | int i t => exact ⟨.list_int i t p hu', .list_int i t p hu', .list_int i t p hu'⟩
      | str x t => exact ⟨.list_str x t p hu', .list_str x t p hu', .list_str x t p hu'⟩
      | tup q r' => exact ⟨.list_tuple p q hu', .list_tuple p q hu', .list_tuple p q hu'⟩
      | lst q r' =>
        rw [eqD]
        exact both_lst p q r r' hu' fun d e u v hm a b => (ih A.in1 d e u v (hd' d hm) a b (by rw [units_in1]; omega)).eq
mutual
inductive Den (G : WH) : W → W → Prop
  | non : Den G .non .non
  | bl (b : Bool) : Den G (.bl b) (.bl b)
  | int (i : Int) : Den G (.int i) (.int i)
  | str (x : Str) : Den G (.str x) (.str x)
  | tup {ws ds : List W} : Dens G ws ds → Den G (.tup ws) (.tup ds)
  | scr {ws ds : List W} : Dens G ws ds → Den G (.scr ws) (.lst ds)
  | ref {a : Addr} {ws ds : List W} : G a = some (.lst ws) → Dens G ws ds → Den G (.ref a) (.lst ds)
inductive Dens (G : WH) : List W → List W → Prop
  | nil : Dens G [] []
  | cons {w d : W} {ws ds : List W} : Den G w d → Dens G ws ds → Dens G (w :: ws) (d :: ds)
end
section
variable {X : Cx} {pins : List (Addr × Obj)} {σ : St} {H : Hp} {s : Shared} {G : WH}
mutual
theorem Den.dv (I : Inv X pins σ H s) (S : Sim X.K G H) : ∀ {w d : W} {x : V} {u : Value}, Den G w d → Rep X.K H w x → RelV x u → DV s.heap d u
  | _, _, _, _, .non, .non, ru => by cases ru; exact .non
  | _, _, _, _, .bl b, .bl _, ru => by cases ru; exact .bl b
  | _, _, _, _, .int i, .int _, ru => by obtain ⟨t, rfl⟩ := ru; exact .int i t
  | _, _, _, _, .str x, .str _, ru => by obtain ⟨t, rfl⟩ := ru; exact .str x t
  | _, _, _, _, .tup r, .tup ht rv, ru => by
    cases ru
    obtain ⟨its, vv, p, _⟩ := I.tuple ht.sq
    exact .tup p (Dens.dv I S r rv vv)
  | _, _, _, _, .scr r, .scr ht rv, ru => by
    cases ru
    obtain ⟨its, vv, p, _⟩ := I.list ht.sq
    exact .lst p.isList (Dens.dv I S r rv vv)
  | _, _, _, _, .ref (a := a) e r, rr, ru => by
    cases rr
    cases ru
    obtain ⟨vs, hv, rv⟩ := S _ _ e
    obtain ⟨its, vv, p, _⟩ := I.list (.of hv)
    exact .lst p.isList (Dens.dv I S r rv vv)
theorem Dens.dv (I : Inv X pins σ H s) (S : Sim X.K G H) : ∀ {ws ds : List W} {xs : List V} {us : List Value}, Dens G ws ds → Reps X.K H ws xs → Vals xs us → DVs s.heap ds us
  | _, _, _, _, .nil, .nil, .nil => .nil
  | _, _, _, _, .cons a x, .cons b y, .cons c z => .cons (Den.dv I S a b c) (Dens.dv I S x y z)
end
end
theorem Dens.of {G : WH} : ∀ {ws ds : List W}, Paired (Den G) ws ds → Dens G ws ds
  | _, _, .nil => .nil
  | _, _, .cons a b => .cons a (Dens.of b)
end L3
namespace L3
open PySem PySem.Spec L2
open PyProof.Rows hiding St
abbrev R22 := W → W → WH → VK2 → Prop
def lowR (K : PySem.W.Frag) (r : R22) : R2 := fun x y H Q => ∃ w w' G Q2, Sim K G H ∧ Rep K H w x ∧ Rep K H w' y ∧ r w w' G Q2 ∧ Cont K H Q2 Q
def OpR2 (X : Cx) (f : Value → Value → Sem Value) (r : R22) : Prop := OpR X f (lowR X.K r)
def uOp (r : R22) (ta tb : TE2) : TE2 := fun τ G Q => ta τ G fun x G1 => tb τ G1 fun y G2 => r x y G2 Q
theorem low_op {K : PySem.W.Frag} {r : R22} {ta tb : TE2} (σ : St) (H : Hp) (Q : VK) (h : low K (uOp r ta tb) σ H Q) : tOp (lowR K r) (low K ta) (low K tb) σ H Q := by
  obtain ⟨τ, G, Q2, hs, hg, ht, hc⟩ := h
  refine ⟨τ, G, _, hs, hg, ht, fun x H1 w G1 t1 s1 r1 h1 => ?_⟩
  refine ⟨τ, G1, _, hs.mono t1, s1, h1, fun y H2 w' G2 t2 s2 r2 h2 => ?_⟩
  exact ⟨w, w', G2, Q2, s2, r1.mono t2, r2, h2, hc.mono (t1.trans t2)⟩
theorem OpR.imp {X : Cx} {f : Value → Value → Sem Value} {r r' : R2} (h : OpR X f r) (le : ∀ x y H Q, r' x y H Q → r x y H Q) : OpR X f r' := fun pins s σ H x y v u Q I rx ry q => h pins s σ H x y v u Q I rx ry (le x y H Q q)
section
variable {X : Cx} {a b e : Expr} {ta tb te : TE2} {pos : Pos}
def uVar (i : Nat) : TE2 := fun τ G Q => match τ[i]? with
  | some (some w) => Q w G
  | _ => False
def uC (w : W) : TE2 := fun _ G Q => Q w G
theorem e_var (i : Nat) {x : Str} (hN : X.N[i]? = some x := by rfl) (hv : Vis X.env.scope x := by first | exact Or.inl rfl | exact Or.inr (Or.inl rfl) | exact Or.inr (Or.inr rfl)) (hd : (x == ("__debug__" : Str)) = false := by decide)
    (hcd : (x == ("__classdict__" : Str)) = false := by decide) : PE2 X (.Name x pos) (uVar i) := by
  simp only [PE2] at *
  exact (PE.imp (pe_var hN hv hd hcd) fun σ H Q ⟨τ, G, Q2, hs, hg, ht, hc⟩ => by
    unfold uVar at ht
    split at ht
    · rename_i w e
      obtain ⟨v, e1, r⟩ := hs.at' i w e
      exact ⟨v, e1, hc v H w G (.refl H) hg r ht⟩
    · exact ht.elim)
theorem e_const {v : V} {w : W} (h : PE X e (tC v)) (r : ∀ H, Rep X.K H w v) : PE2 X e (uC w) := by
  simp only [PE2] at *
  exact (PE.imp h fun σ H Q ⟨τ, G, Q2, hs, hg, ht, hc⟩ => hc v H w G (.refl H) hg (r H) ht)
theorem e_int {i j} : PE2 X (.Constant (.int i) j pos) (uC (.int i)) := e_const pe_int fun _ => .int i
theorem e_bl {k j} : PE2 X (.Constant (.bool k) j pos) (uC (.bl k)) := e_const pe_bl fun _ => .bl k
theorem e_non {j} : PE2 X (.Constant .none j pos) (uC .non) := e_const pe_non fun _ => .non
theorem e_str {x j} : PE2 X (.Constant (.str x) j pos) (uC (.str x)) := e_const pe_str fun _ => .str x
theorem e_glob {x : Str} {v : V} {u : Value} {w : W} (hg : Gl X x) (hm : X.mg x = some u) (r : RelV v u) (rw : ∀ H, Rep X.K H w v) (hd : (x == ("__debug__" : Str)) = false := by decide) : PE2 X (.Name x pos) (uC w) := e_const (pe_glob hg hm r hd) rw
theorem e_op {op : Operator} {r : R22} (ho : OpR2 X (binaryOp op) r) (ha : PE2 X a ta) (hb : PE2 X b tb) : PE2 X (.BinOp a op b pos) (uOp r ta tb) := by
  simp only [PE2] at *
  exact (PE.imp (pe_op ho ha hb) low_op)
theorem e_cmp {op : CmpOp} {r : R22} (ho : OpR2 X (compareOp op) r) (ha : PE2 X a ta) (hb : PE2 X b tb) (hm : behindInMarks op b = false) : PE2 X (.Compare a [op] [b] pos) (uOp r ta tb) := by
  simp only [PE2] at *
  exact (PE.imp (pe_cmpR ho ha hb hm) low_op)
def uTest (t : TE2) : TT2 := fun τ G Q => t τ G fun w G' => match w with
  | .bl k => Q k G'
  | _ => False
theorem low_test {K : PySem.W.Frag} {t2 : TE2} {t : TE} (le : ∀ σ H Q, low K t2 σ H Q → t σ H Q) (σ : St) (H : Hp) (Q : Bool → Hp → Prop) (h : lowT K (uTest t2) σ H Q) : tTest t σ H Q := by
  obtain ⟨τ, G, Q2, hs, hg, ht, hc⟩ := h
  refine le σ H _ ⟨τ, G, _, hs, hg, ht, fun v H' w G' t1 s1 r1 h1 => ?_⟩
  cases w with
  | bl k => cases r1; exact ⟨k, rfl, hc k H' G' t1 s1 h1⟩
  | _ => exact False.elim h1
theorem t_cmp {op : CmpOp} {r : R22} (ho : OpR2 X (compareOp op) r) (ha : PE2 X a ta) (hb : PE2 X b tb) (hm : behindInMarks op b = false) : PT2 X (.Compare a [op] [b] pos) (uTest (uOp r ta tb)) := by
  simp only [PE2, PT2] at *
  exact (PT.imp (pt_cmpR ho ha hb hm) (low_test low_op))
theorem t_val (h : PE2 X e te) (he : ∀ whole, isTrue e X.env whole = (do let v ← whole; standAt e.pos; holding [v] (truthy v)) := by intro _; rfl) : PT2 X e (uTest te) := by
  simp only [PE2, PT2] at *
  exact (PT.imp (pt_val h he) (low_test fun _ _ _ q => q))
def i2 (C : Int → Int → Prop) (g : Int → Int → W) : R22 := fun x y G Q => match x, y with
  | .int i, .int j => C i j ∧ Q (g i j) G
  | _, _ => False
theorem op2_int {f : Value → Value → Sem Value} {C : Int → Int → Prop} {g : Int → Int → V} {g2 : Int → Int → W} (h : OpR X f (rI C g)) (hg : ∀ H i j, Rep X.K H (g2 i j) (g i j)) : OpR2 X f (i2 C g2) :=
  OpR.imp h fun x y H Q ⟨w, w', G, Q2, S, rx, ry, q, c⟩ => by
    cases w <;> cases w' <;> first | exact False.elim q | skip
    cases rx; cases ry
    exact ⟨_, _, rfl, rfl, q.1, c _ H _ G (.refl H) S (hg H _ _) q.2⟩
def i20 (g : Int → Int → W) : R22 := fun x y G Q => match x, y with
  | .int i, .int j => Q (g i j) G
  | _, _ => False
theorem op2_int1 {f : Value → Value → Sem Value} {g : Int → Int → V} {g2 : Int → Int → W} (h : OpR X f (rI0 g)) (hg : ∀ H i j, Rep X.K H (g2 i j) (g i j)) : OpR2 X f (i20 g2) :=
  OpR.imp h fun x y H Q ⟨w, w', G, Q2, S, rx, ry, q, c⟩ => by
    cases w <;> cases w' <;> first | exact False.elim q | skip
    cases rx; cases ry
    exact ⟨_, _, rfl, rfl, c _ H _ G (.refl H) S (hg H _ _) q⟩
def iSub : R22 := i20 fun i j => .int (i - j)
def iDiv : R22 := i2 CDiv fun i j => .int (i / j)
def iMod : R22 := i2 (fun _ j => 0 < j) fun i j => .int (i % j)
def iPow : R22 := i2 CPow fun i j => .int (i ^ j.toNat)
def iLt : R22 := i20 fun i j => .bl (decide (i < j))
def iGt : R22 := i20 fun i j => .bl (decide (j < i))
def iGe : R22 := i20 fun i j => .bl (decide (j ≤ i))
theorem o_sub : OpR2 X (binaryOp .Sub) iSub := op2_int1 op_sub fun _ _ _ => .int _
theorem o_fdiv : OpR2 X (binaryOp .FloorDiv) iDiv := op2_int op_fdiv fun _ _ _ => .int _
theorem o_mod : OpR2 X (binaryOp .Mod) iMod := op2_int op_mod fun _ _ _ => .int _
theorem o_pow : OpR2 X (binaryOp .Pow) iPow := op2_int op_pow fun _ _ _ => .int _
theorem o_lt : OpR2 X (compareOp .Lt) iLt := op2_int1 op_lt fun _ _ _ => .bl _
theorem o_gt : OpR2 X (compareOp .Gt) iGt := op2_int1 op_gt fun _ _ _ => .bl _
theorem o_ge : OpR2 X (compareOp .GtE) iGe := op2_int1 op_ge fun _ _ _ => .bl _
def add2 : R22 := fun x y G Q => match x, y with
  | .int i, .int j => Q (.int (i + j)) G
  | .str i, .str j => i.length + j.length ≤ sizeLine ∧ Q (.str (i ++ j)) G
  | .tup xs, .tup ys => xs ≠ [] ∧ xs.length + ys.length ≤ sizeLine ∧ Q (.tup (xs ++ ys)) G
  | .ref l, .ref b => ∃ xs ys, G l = some (.lst xs) ∧ G b = some (.lst ys) ∧ xs.length + ys.length ≤ sizeLine ∧ ∀ p, G p = none → Q (.ref p) (gup G p (.lst (xs ++ ys)))
  | _, _ => False
theorem o_add : OpR2 X (binaryOp .Add) add2 :=
  OpR.imp (op_add.or (op_add_str.or (op_catT.or op_cat))) fun x y H Q ⟨w, w', G, Q2, S, rx, ry, q, c⟩ => by
    cases w <;> cases w' <;> first | exact False.elim q | skip
    case int i j => cases rx; cases ry; exact .inl ⟨_, _, rfl, rfl, c _ H _ G (.refl H) S (.int _) q⟩
    case str i j => cases rx; cases ry; exact .inr (.inl ⟨_, _, rfl, rfl, q.1, c _ H _ G (.refl H) S (.str _) q.2⟩)
    case ref l b =>
      cases rx; cases ry
      obtain ⟨xs, ys, e1, e2, hz, q⟩ := q
      obtain ⟨vs, h1, r1⟩ := S _ _ e1
      obtain ⟨us, h2, r2⟩ := S _ _ e2
      refine .inr (.inr (.inr ⟨l, b, vs, us, rfl, rfl, h1, h2, by rw [← r1.length, ← r2.length]; exact hz, fun p hp => ?_⟩))
      exact c _ _ _ _ (.fresh hp) (S.laid hp (.l upd_same ((r1.append r2).mono (.fresh hp)))) (.ref p) (q p (S.no hp))
    case tup xs ys =>
      obtain ⟨hx, hz, q⟩ := q
      cases rx with | tup t1 r1 => cases ry with | tup t2 r2 =>
      refine .inr (.inr (.inl ⟨_, _, _, _, rfl, rfl, t1.sq, t2.sq, fun z => hx (r1.nil_iff.mpr z), by rw [← r1.length, ← r2.length]; exact hz, fun z => ?_, fun z p hp => ?_⟩))
      · have : ys = [] := r2.nil_iff.mpr z
        subst this
        rw [List.append_nil] at q
        exact c _ H _ G (.refl H) S (.tup t1 r1) q
      · exact c _ _ _ _ (.fresh hp) (S.fresh hp) (.tup (.inl upd_same) ((r1.append r2).mono (.fresh hp))) q
def mul2 : R22 := fun x y G Q => match x, y with
  | .int i, .int j => CMul i j ∧ Q (.int (i * j)) G
  | .ref l, .int k => ∃ xs, G l = some (.lst xs) ∧ -(2 ^ 63) ≤ k ∧ k < 2 ^ 63 ∧ xs.length * k.toNat ≤ sizeLine ∧ ∀ p, G p = none → Q (.ref p) (gup G p (.lst (List.replicate k.toNat xs).flatten))
  | _, _ => False
theorem o_mul : OpR2 X (binaryOp .Mult) mul2 :=
  OpR.imp (op_mul.or op_rep) fun x y H Q ⟨w, w', G, Q2, S, rx, ry, q, c⟩ => by
    cases w <;> cases w' <;> first | exact False.elim q | skip
    case int i j => cases rx; cases ry; exact .inl ⟨_, _, rfl, rfl, q.1, c _ H _ G (.refl H) S (.int _) q.2⟩
    case ref l k =>
      cases rx; cases ry
      obtain ⟨xs, e1, k1, k2, hz, q⟩ := q
      obtain ⟨vs, h1, r1⟩ := S _ _ e1
      refine .inr ⟨l, k, vs, rfl, rfl, h1, k1, k2, by rw [← r1.length]; exact hz, fun p hp => ?_⟩
      exact c _ _ _ _ (.fresh hp) (S.laid hp (.l upd_same ((r1.rep _).mono (.fresh hp)))) (.ref p) (q p (S.no hp))
def eq2 (neg : Bool) : R22 := fun x y G Q => ∃ d e, Den G x d ∧ Den G y e ∧ Dep 40 d ∧ Q (.bl (if neg then !eqD d e else eqD d e)) G
theorem o_eq (hu : X.A.units + 40 < cLine) : OpR2 X (compareOp .Eq) (eq2 false) := by
  rintro pins s σ H x y v u Q I rx ry ⟨w, w', G, Q2, S, r1, r2, ⟨d, e, h1, h2, hd, q⟩, c⟩
  have B := both_deep s 40 X.A d e v u hd (h1.dv I S r1 rx) (h2.dv I S r2 ry) hu
  exact B.rc _ _ _ _ ⟨.bl (eqD d e), H, I, rfl, c _ H _ G (.refl H) S (.bl _) q⟩
theorem o_ne (hu : X.A.units + 40 < cLine) : OpR2 X (compareOp .NotEq) (eq2 true) := by
  rintro pins s σ H x y v u Q I rx ry ⟨w, w', G, Q2, S, r1, r2, ⟨d, e, h1, h2, hd, q⟩, c⟩
  have B := both_deep s 40 X.A d e v u hd (h1.dv I S r1 rx) (h2.dv I S r2 ry) hu
  exact B.ne _ _ _ _ ⟨.bl (!eqD d e), H, I, rfl, c _ H _ G (.refl H) S (.bl _) q⟩
def isN2 (neg : Bool) : R22 := fun x y G Q => match y with
  | .non => Q (.bl (if neg then !decide (x = .non) else decide (x = .non))) G
  | _ => False
theorem Rep.non_iff {K : PySem.W.Frag} {H : Hp} {w : W} {v : V} (r : Rep K H w v) : decide (v = V.non) = decide (w = W.non) := by
  cases r <;> simp
theorem o_is : OpR2 X (compareOp .Is) (isN2 false) :=
  OpR.imp op_isN fun x y H Q ⟨w, w', G, Q2, S, rx, ry, q, c⟩ => by
    cases w' <;> first | exact False.elim q | skip
    cases ry
    refine ⟨rfl, ?_⟩
    rw [rx.non_iff]
    exact c _ H _ G (.refl H) S (.bl _) q
theorem o_isnot : OpR2 X (compareOp .IsNot) (isN2 true) :=
  OpR.imp op_notN fun x y H Q ⟨w, w', G, Q2, S, rx, ry, q, c⟩ => by
    cases w' <;> first | exact False.elim q | skip
    cases ry
    refine ⟨rfl, ?_⟩
    rw [rx.non_iff]
    exact c _ H _ G (.refl H) S (.bl _) q
variable {tA tB' : TT2} {rest : List Expr}
def uAnd (t u : TT2) : TT2 := fun τ G Q => t τ G fun c G1 => if c = true then u τ G1 Q else Q false G1
def uOr (t u : TT2) : TT2 := fun τ G Q => t τ G fun c G1 => if c = true then Q true G1 else u τ G1 Q
def uNot (t : TT2) : TT2 := fun τ G Q => t τ G fun c G1 => Q (!c) G1
theorem low_and {K : PySem.W.Frag} {t u : TT2} (σ : St) (H : Hp) (Q : Bool → Hp → Prop) (h : lowT K (uAnd t u) σ H Q) : tAnd (lowT K t) (lowT K u) σ H Q := by
  obtain ⟨τ, G, Q2, hs, hg, ht, hc⟩ := h
  refine ⟨τ, G, _, hs, hg, ht, fun b H1 G1 t1 s1 h1 => ?_⟩
  cases b with
  | true => exact ⟨τ, G1, Q2, hs.mono t1, s1, h1, hc.mono t1⟩
  | false => exact hc false H1 G1 t1 s1 h1
theorem low_or {K : PySem.W.Frag} {t u : TT2} (σ : St) (H : Hp) (Q : Bool → Hp → Prop) (h : lowT K (uOr t u) σ H Q) : tOr (lowT K t) (lowT K u) σ H Q := by
  obtain ⟨τ, G, Q2, hs, hg, ht, hc⟩ := h
  refine ⟨τ, G, _, hs, hg, ht, fun b H1 G1 t1 s1 h1 => ?_⟩
  cases b with
  | false => exact ⟨τ, G1, Q2, hs.mono t1, s1, h1, hc.mono t1⟩
  | true => exact hc true H1 G1 t1 s1 h1
theorem t_and1 (ha : PT2 X a tA) : PW2 X (.BoolOp .And [a] pos) tA := by
  simp only [PT2, PW2] at *
  exact (pw_and1 ha)
theorem t_or1 (ha : PT2 X a tA) : PW2 X (.BoolOp .Or [a] pos) tA := by
  simp only [PT2, PW2] at *
  exact (pw_or1 ha)
theorem t_and (ha : PT2 X a tA) (hb : PW2 X (.BoolOp .And (b :: rest) pos) tB') : PW2 X (.BoolOp .And (a :: b :: rest) pos) (uAnd tA tB') := by
  simp only [PT2, PW2] at *
  exact (PW.imp (pw_and ha hb) low_and)
theorem t_or (ha : PT2 X a tA) (hb : PW2 X (.BoolOp .Or (b :: rest) pos) tB') : PW2 X (.BoolOp .Or (a :: b :: rest) pos) (uOr tA tB') := by
  simp only [PT2, PW2] at *
  exact (PW.imp (pw_or ha hb) low_or)
theorem t_not (ha : PT2 X a tA) : PT2 X (.UnaryOp .Not a pos) (uNot tA) := by
  simp only [PT2] at *
  exact (PT.imp (pt_not ha) fun σ H Q ⟨τ, G, Q2, hs, hg, ht, hc⟩ =>
  ⟨τ, G, _, hs, hg, ht, fun b H1 G1 t1 s1 h1 => hc (!b) H1 G1 t1 s1 h1⟩)
def uAndV (ta tb : TE2) : TE2 := fun τ G Q => ta τ G fun x G1 => match x with
  | .bl c => if c = true then tb τ G1 Q else Q (.bl false) G1
  | _ => False
def uOrV (ta tb : TE2) : TE2 := fun τ G Q => ta τ G fun x G1 => match x with
  | .bl c => if c = true then Q (.bl true) G1 else tb τ G1 Q
  | _ => False
def uNotV (ta : TE2) : TE2 := fun τ G Q => ta τ G fun x G1 => match x with
  | .bl c => Q (.bl (!c)) G1
  | _ => False
theorem e_one {op} {t : TE2} (h : PE2 X a t) : PE2 X (.BoolOp op [a] pos) t := by
  simp only [PE2] at *
  exact (pe_one h)
theorem e_and (ha : PE2 X a ta) (hb : PE2 X (.BoolOp .And (b :: rest) pos) tb) : PE2 X (.BoolOp .And (a :: b :: rest) pos) (uAndV ta tb) := by
  simp only [PE2] at *
  exact (PE.imp (pe_and ha hb) fun σ H Q ⟨τ, G, Q2, hs, hg, ht, hc⟩ => ⟨τ, G, _, hs, hg, ht, fun v H1 w G1 t1 s1 r1 h1 => by
    cases w <;> first | exact False.elim h1 | skip
    cases r1
    rename_i k
    refine ⟨k, rfl, ?_⟩
    cases k with
    | true => exact ⟨τ, G1, Q2, hs.mono t1, s1, h1, hc.mono t1⟩
    | false => exact hc _ H1 _ G1 t1 s1 (.bl _) h1⟩)
theorem e_or (ha : PE2 X a ta) (hb : PE2 X (.BoolOp .Or (b :: rest) pos) tb) : PE2 X (.BoolOp .Or (a :: b :: rest) pos) (uOrV ta tb) := by
  simp only [PE2] at *
  exact (PE.imp (pe_or ha hb) fun σ H Q ⟨τ, G, Q2, hs, hg, ht, hc⟩ => ⟨τ, G, _, hs, hg, ht, fun v H1 w G1 t1 s1 r1 h1 => by
    cases w <;> first | exact False.elim h1 | skip
    cases r1
    rename_i k
    refine ⟨k, rfl, ?_⟩
    cases k with
    | false => exact ⟨τ, G1, Q2, hs.mono t1, s1, h1, hc.mono t1⟩
    | true => exact hc _ H1 _ G1 t1 s1 (.bl _) h1⟩)
theorem e_not (ha : PE2 X a ta) : PE2 X (.UnaryOp .Not a pos) (uNotV ta) := by
  simp only [PE2] at *
  exact (PE.imp (pe_not ha) fun σ H Q ⟨τ, G, Q2, hs, hg, ht, hc⟩ => ⟨τ, G, _, hs, hg, ht, fun v H1 w G1 t1 s1 r1 h1 => by
    cases w <;> first | exact False.elim h1 | skip
    cases r1
    exact ⟨_, rfl, hc _ H1 _ G1 t1 s1 (.bl _) h1⟩⟩)
def uIf (t : TT2) (ta tb : TE2) : TE2 := fun τ G Q => t τ G fun c G1 => if c = true then ta τ G1 Q else tb τ G1 Q
theorem e_ifExp {c : Expr} (hc : PT2 X c tA) (ha : PE2 X a ta) (hb : PE2 X b tb) : PE2 X (.IfExp c a b pos) (uIf tA ta tb) := by
  simp only [PE2, PT2] at *
  exact (PE.imp (pe_ifExp hc ha hb) fun σ H Q ⟨τ, G, Q2, hs, hg, ht, hc⟩ => ⟨τ, G, _, hs, hg, ht, fun b H1 G1 t1 s1 h1 => by
    cases b with
    | true => exact ⟨τ, G1, Q2, hs.mono t1, s1, h1, hc.mono t1⟩
    | false => exact ⟨τ, G1, Q2, hs.mono t1, s1, h1, hc.mono t1⟩⟩)
variable {es : List Expr} {t : TA2}
def uNil : TA2 := fun _ G Q => Q [] G
def uCons (ta : TE2) (tr : TA2) : TA2 := fun τ G Q => ta τ G fun x G1 => tr τ G1 fun xs G2 => Q (x :: xs) G2
theorem a_nil : PA2 X [] uNil := by
  simp only [PA2] at *
  exact (PA.imp pa_nil fun σ H Q ⟨τ, G, Q2, hs, hg, ht, hc⟩ => hc [] H [] G (.refl H) hg .nil ht)
theorem a_cons (ha : PE2 X e te) (hr : PA2 X es t) (hs : starEach (e :: es) X.env = (false, eval e X.env) :: starEach es X.env := by rfl) : PA2 X (e :: es) (uCons te t) := by
  simp only [PE2, PA2] at *
  exact (PA.imp (pa_cons ha hr hs) fun σ H Q ⟨τ, G, Q2, hs, hg, ht, hc⟩ => ⟨τ, G, _, hs, hg, ht, fun v H1 w G1 t1 s1 r1 h1 =>
    ⟨τ, G1, _, hs.mono t1, s1, h1, fun vs H2 ws G2 t2 s2 r2 h2 => hc _ H2 _ G2 (t1.trans t2) s2 (.cons (r1.mono t2) r2) h2⟩⟩)
def uTup (t : TA2) : TE2 := fun τ G Q => t τ G fun xs G1 => xs.length ≤ sizeLine ∧ Q (.tup xs) G1
def uLst (t : TA2) : TE2 := fun τ G Q => t τ G fun xs G1 => xs.length ≤ sizeLine ∧ ∀ p, G1 p = none → Q (.ref p) (gup G1 p (.lst xs))
theorem e_tup {x1} (h : PA2 X es t) : PE2 X (.Tuple es x1 pos) (uTup t) := by
  simp only [PE2, PA2] at *
  exact (PE.imp (pe_tup h) fun σ H Q ⟨τ, G, Q2, hs, hg, ht, hc⟩ => ⟨τ, G, _, hs, hg, ht, fun vs H1 ws G1 t1 s1 r1 h1 =>
    ⟨by rw [← r1.length]; exact h1.1, fun p hp => hc _ _ _ _ (t1.trans (.fresh hp)) (s1.fresh hp) (.tup (.inl upd_same) (r1.mono (.fresh hp))) h1.2⟩⟩)
theorem e_lst (h : PA2 X es t) : PE2 X (.List es pos) (uLst t) := by
  simp only [PE2, PA2] at *
  exact (PE.imp (pe_lst h) fun σ H Q ⟨τ, G, Q2, hs, hg, ht, hc⟩ => ⟨τ, G, _, hs, hg, ht, fun vs H1 ws G1 t1 s1 r1 h1 =>
    ⟨by rw [← r1.length]; exact h1.1, fun p hp => hc _ _ _ _ (t1.trans (.fresh hp)) (s1.laid hp (.l upd_same (r1.mono (.fresh hp)))) (.ref p) (h1.2 p (s1.no hp))⟩⟩)
def uDNew (k : Bool) : TE2 := fun _ G Q => ∀ p, G p = none → Q (.ref p) (gup G p (.dct k []))
theorem e_dnewT : PE2 X (.Dict [] [] pos) (uDNew true) := by
  simp only [PE2] at *
  exact (PE.imp pe_dnewT fun σ H Q ⟨τ, G, Q2, hs, hg, ht, hc⟩ p hp =>
  hc _ _ _ _ (.fresh hp) (hg.laid hp (.dt upd_same .nil)) (.ref p) (ht p (hg.no hp)))
end
end L3
namespace L3
open PySem PySem.Spec L2
open PyProof.Rows hiding St
section
variable {X : Cx} {st : Stmt} {rest : List Stmt} {t u : TS2} {e : Expr} {te : TE2} {pos : Pos}
def uNext : TS2 := fun D τ G => D.nx τ G
def uSeq (t u : TS2) : TS2 := fun D τ G => t { D with nx := u D } τ G
theorem ss_nil : PSs2 X [] uNext := by
  simp only [PSs2] at *
  exact (PSs.imp pss_nil fun D σ H ⟨τ, G, D2, hs, hg, ht, le⟩ => le.nx σ H τ G (.refl H) hs hg ht)
theorem ss_cons (h1 : PS2 X st t) (h2 : PSs2 X rest u) : PSs2 X (st :: rest) (uSeq t u) := by
  simp only [PS2, PSs2] at *
  exact (PSs.imp (pss_cons h1 h2) fun D σ H ⟨τ, G, D2, hs, hg, ht, le⟩ =>
    ⟨τ, G, { D2 with nx := u D2 }, hs, hg, ht, ⟨fun σ' H' τ' G' t1 s1 g1 h1 => ⟨τ', G', D2, s1, g1, h1, le.mono t1⟩, le.rt, le.bk, le.ct⟩⟩)
theorem ss_one (h1 : PS2 X st t) : PSs2 X [st] t := by
  simp only [PS2, PSs2] at *
  exact (pss_one h1)
def uDrop (te : TE2) : TS2 := fun D τ G => te τ G fun _ G1 => D.nx τ G1
theorem s_expr (he : PE2 X e te) (hs : swapsWith e none pos.line X.env = pure false := by rfl) : PS2 X (.Expr e pos) (uDrop te) := by
  simp only [PE2, PS2] at *
  exact (PS.imp (ps_expr he hs) fun D σ H ⟨τ, G, D2, hs, hg, ht, le⟩ => ⟨τ, G, _, hs, hg, ht, fun v H1 w G1 t1 s1 r1 h1 => le.nx σ H1 τ G1 t1 (hs.mono t1) s1 h1⟩)
def uRet (te : TE2) : TS2 := fun D τ G => te τ G D.rt
theorem s_ret (he : PE2 X e te) : PS2 X (.Return (some e) pos) (uRet te) := by
  simp only [PE2, PS2] at *
  exact (PS.imp (ps_ret he) fun D σ H ⟨τ, G, D2, hs, hg, ht, le⟩ => ⟨τ, G, _, hs, hg, ht, fun v H1 w G1 t1 s1 r1 h1 => le.rt v H1 w G1 t1 s1 r1 h1⟩)
def uIfS (c : TT2) (t u : TS2) : TS2 := fun D τ G => c τ G fun b G1 => if b = true then t D τ G1 else u D τ G1
theorem s_if {c : Expr} {a b : List Stmt} {tc : TT2} (hc : PT2 X c tc) (ha : PSs2 X a t) (hb : PSs2 X b u) : PS2 X (.If c a b pos) (uIfS tc t u) := by
  simp only [PT2, PS2, PSs2] at *
  exact (PS.imp (ps_if hc ha hb) fun D σ H ⟨τ, G, D2, hs, hg, ht, le⟩ => ⟨τ, G, _, hs, hg, ht, fun b H1 G1 t1 s1 h1 => by
    cases b with
    | true => exact ⟨τ, G1, D2, hs.mono t1, s1, h1, le.mono t1⟩
    | false => exact ⟨τ, G1, D2, hs.mono t1, s1, h1, le.mono t1⟩⟩)
end
abbrev TG2 := W → St2 → WH → (St2 → WH → Prop) → Prop
abbrev TGs2 := List W → St2 → WH → (St2 → WH → Prop) → Prop
def lowG (K : PySem.W.Frag) (t : TG2) : TG := fun v σ H Q => ∃ w τ G Q2, Rep K H w v ∧ SimS K H τ σ ∧ Sim K G H ∧ t w τ G Q2 ∧ ContS K H Q2 Q
def lowGs (K : PySem.W.Frag) (t : TGs2) : TGs := fun vs σ H Q => ∃ ws τ G Q2, Reps K H ws vs ∧ SimS K H τ σ ∧ Sim K G H ∧ t ws τ G Q2 ∧ ContS K H Q2 Q
@[irreducible] def PG2 (X : Cx) (tg : Expr) (t : TG2) : Prop := PG X tg (lowG X.K t)
@[irreducible] def PGs2 (X : Cx) (tgs : List Expr) (t : TGs2) : Prop := PGs X tgs (lowGs X.K t)
section
variable {X : Cx} {pos : Pos}
theorem PG.imp {tg : Expr} {t t' : TG} (h : PG X tg t) (le : ∀ v σ H Q, t' v σ H Q → t v σ H Q) : PG X tg t' := fun pins s σ H v u Q I r q => h pins s σ H v u Q I r (le v σ H Q q)
theorem PGs.imp {tg : List Expr} {t t' : TGs} (h : PGs X tg t) (le : ∀ v σ H Q, t' v σ H Q → t v σ H Q) : PGs X tg t' := fun pins s σ H v u Q I r q => h pins s σ H v u Q I r (le v σ H Q q)
def uName (i : Nat) : TG2 := fun w τ G Q => Q (τ.set i (some w)) G
theorem g_name {i : Nat} {x : Str} (hN : X.N.Nodup) (hi : X.N[i]? = some x) (hx : Loc X.env.scope x) (hf : X.fn x = true ∨ X.env.scope.names.lookup x = some .local := by first | exact .inl rfl | exact .inr rfl | assumption) : PG2 X (.Name x pos) (uName i) := by
  simp only [PG2] at *
  exact (PG.imp (pg_name hN hi hx hf) fun v σ H Q ⟨w, τ, G, Q2, r, hs, hg, ht, c⟩ => c _ H _ G (.refl H) (hs.set r i) hg ht)
def uGNil : TGs2 := fun ws τ G Q => ws = [] ∧ Q τ G
def uGCons (t : TG2) (u : TGs2) : TGs2 := fun ws τ G Q => match ws with
  | w :: r => t w τ G fun τ' G' => u r τ' G' Q
  | [] => False
theorem gs_nil : PGs2 X [] uGNil := by
  simp only [PGs2] at *
  exact (PGs.imp pgs_nil fun vs σ H Q ⟨ws, τ, G, Q2, r, hs, hg, ht, c⟩ => by
  obtain ⟨e, q⟩ := ht
  subst e
  cases r
  exact ⟨rfl, c _ H _ G (.refl H) hs hg q⟩)
theorem gs_cons {e : Expr} {es : List Expr} {t : TG2} {u : TGs2} (h1 : PG2 X e t) (h2 : PGs2 X es u)
    (hs : (assignEach (e :: es) X.env).map (·.2) = assign e X.env :: (assignEach es X.env).map (·.2) := by rfl) : PGs2 X (e :: es) (uGCons t u) := by
  simp only [PG2, PGs2] at *
  exact (PGs.imp (pgs_cons h1 h2 hs) fun vs σ H Q ⟨ws, τ, G, Q2, r, hs, hg, ht, c⟩ => by
  cases r with
  | nil => exact False.elim ht
  | cons a b =>
    refine ⟨_, _, rfl, _, τ, G, _, a, hs, hg, ht, fun σ1 H1 τ1 G1 t1 s1 g1 h1 => ?_⟩
    exact ⟨_, τ1, G1, Q2, b.mono t1, s1, g1, h1, c.mono t1⟩)
def uGTup (n : Nat) (t : TGs2) : TG2 := fun w τ G Q => match w with
  | .tup ws => ws.length = n ∧ t ws τ G Q
  | _ => False
theorem g_tup {es : List Expr} {k : Nat} {t : TGs2} {n : Nat} (hc : X.calm = true) (h : PGs2 X es t)
    (hn : (assignEach es X.env).length = n := by rfl) (hst : (assignEach es X.env).findIdx? (·.1) = none := by rfl) : PG2 X (.Tuple es k pos) (uGTup n t) := by
  simp only [PG2, PGs2] at *
  exact (PG.imp (pg_tup hc h hn hst) fun v σ H Q ⟨w, τ, G, Q2, r, hs, hg, ht, c⟩ => by
  cases w <;> first | exact False.elim ht | skip
  cases r with
  | tup ta ra => exact ⟨_, _, rfl, ta.sq, by rw [← ra.length]; exact ht.1, _, τ, G, Q2, ra, hs, hg, ht.2, c⟩)
def uAsg (te : TE2) (g : TG2) : TS2 := fun D τ G => te τ G fun x G1 => g x τ G1 D.nx
theorem low_asg {K : PySem.W.Frag} {te : TE2} {g : TG2} (D : Ends) (σ : St) (H : Hp) (h : lowS K (uAsg te g) D σ H) : tAsg (low K te) (lowG K g) D σ H := by
  obtain ⟨τ, G, D2, hs, hg, ht, le⟩ := h
  exact ⟨τ, G, _, hs, hg, ht, fun v H1 w G1 t1 s1 r1 h1 => ⟨w, τ, G1, _, r1, hs.mono t1, s1, h1, (le.mono t1).nx⟩⟩
theorem s_asg {tg e : Expr} {te : TE2} {g : TG2} (he : PE2 X e te) (hg : PG2 X tg g) (hs : swapsWithSole [tg] e pos.line X.env = pure false := by rfl) (hw : swappedStores [tg] e X.env = pure none := by rfl)
    (h1 : (assignEach [tg] X.env).map (·.2) = [assign tg X.env] := by rfl) : PS2 X (.Assign [tg] e pos) (uAsg te g) := by
  simp only [PE2, PS2, PG2] at *
  exact (PS.imp (ps_asg he hg hs hw h1) low_asg)
theorem s_set {i : Nat} {x : Str} {e : Expr} {te : TE2} {pos' : Pos} (hN : X.N.Nodup) (hi : X.N[i]? = some x) (hx : Loc X.env.scope x) (he : PE2 X e te) (hs : swapsWith e (some (.Name x pos')) pos.line X.env = pure false := by rfl) (hf : X.fn x = true ∨ X.env.scope.names.lookup x = some .local := by first | exact .inl rfl | exact .inr rfl | assumption) :
    PS2 X (.Assign [.Name x pos'] e pos) (uAsg te (uName i)) := by
  simp only [PE2, PS2] at *
  exact (PS.imp (ps_set hN hi hx he hs hf) fun D σ H ⟨τ, G, D2, hs, hg, ht, le⟩ =>
  ⟨τ, G, _, hs, hg, ht, fun v H1 w G1 t1 s1 r1 h1 => le.nx _ H1 _ G1 t1 ((hs.mono t1).set r1 i) s1 h1⟩)
end
def lookW (kvs : List (W × W)) (k : W) : Option W := (kvs.find? fun kv => decide (kv.1 = k)).map (·.2)
def putW (kvs : List (W × W)) (k v : W) : List (W × W) := if (kvs.any fun kv => decide (kv.1 = k)) = true then kvs.map fun kv => if kv.1 = k then (kv.1, v) else kv else kvs ++ [(k, v)]
def isKey : Bool → W → Bool
  | false, .int _ => true
  | false, .str _ => true
  | true, .tup ws => ws.all fun x => match x with | .int _ => true | .str _ => true | _ => false
  | _, _ => false
theorem keys_of : ∀ {ws : List W}, (ws.all fun x => match x with | .int _ => true | .str _ => true | _ => false) = true → ∃ ks : List Key, ws = ks.map keyS
  | [], _ => ⟨[], rfl⟩
  | w :: ws, h => by
    rw [List.all_cons, Bool.and_eq_true] at h
    obtain ⟨h1, h2⟩ := h
    obtain ⟨ks, e⟩ := keys_of h2
    cases w <;> first | (cases h1; done) | skip
    case int i => exact ⟨.inl i :: ks, by rw [e]; rfl⟩
    case str i => exact ⟨.inr i :: ks, by rw [e]; rfl⟩
section
variable {K : PySem.W.Frag} {H : Hp}
theorem rep_key {k : Key} {v : V} (r : Rep K H (keyS k) v) : v = kV k := by
  cases k <;> (cases r; rfl)
theorem reps_keys : ∀ {ks : List Key} {vs : List V}, Reps K H (ks.map keyS) vs → vs = ks.map kV
  | [], _, .nil => rfl
  | k :: ks, _, .cons a b => by rw [rep_key a, reps_keys b]; rfl
theorem rep_tkey {ks : List Key} {v : V} (r : Rep K H (.tup (ks.map keyS)) v) : ∃ b, v = .ref b ∧ TupAt K H b (ks.map kV) := by
  cases r with
  | tup t r => exact ⟨_, rfl, by rw [← reps_keys r]; exact t⟩
theorem rel_look {κ : Type} [DecidableEq κ] {f : κ → W} (inj : ∀ a b, f a = f b → a = b) {kvs : List (W × W)} {ks : List (κ × V)} (r : Paired (fun (p : W × W) (q : κ × V) => p.1 = f q.1 ∧ Rep K H p.2 q.2) kvs ks) (k : κ) :
    (∃ w v, lookW kvs (f k) = some w ∧ valV ks k = some v ∧ Rep K H w v) ∨ (lookW kvs (f k) = none ∧ valV ks k = none) := by
  induction r with
  | nil => exact .inr ⟨rfl, rfl⟩
  | @cons p q ps qs h t ih =>
    by_cases e : q.1 = k
    · refine .inl ⟨p.2, q.2, ?_, valV_pos e, h.2⟩
      simp [lookW, List.find?_cons, h.1, e]
    · have e' : ¬ p.1 = f k := fun z => e (inj _ _ (h.1.symm.trans z))
      have l : lookW (p :: ps) (f k) = lookW ps (f k) := by simp [lookW, List.find?_cons, e']
      rw [l, valV_neg e]
      exact ih
theorem rel_any {κ : Type} [DecidableEq κ] {f : κ → W} (inj : ∀ a b, f a = f b → a = b) {kvs : List (W × W)} {ks : List (κ × V)} (r : Paired (fun (p : W × W) (q : κ × V) => p.1 = f q.1 ∧ Rep K H p.2 q.2) kvs ks) (k : κ) :
    (kvs.any fun kv => decide (kv.1 = f k)) = (ks.any fun kv => decide (kv.1 = k)) := by
  induction r with
  | nil => rfl
  | @cons p q ps qs h t ih =>
    rw [List.any_cons, List.any_cons, ih]
    congr 1
    by_cases e : q.1 = k
    · simp [h.1, e]
    · have e' : ¬ p.1 = f k := fun z => e (inj _ _ (h.1.symm.trans z))
      simp [e, e']
theorem rel_put {κ : Type} [DecidableEq κ] {f : κ → W} (inj : ∀ a b, f a = f b → a = b) {kvs : List (W × W)} {ks : List (κ × V)} (r : Paired (fun (p : W × W) (q : κ × V) => p.1 = f q.1 ∧ Rep K H p.2 q.2) kvs ks) (k : κ) {w : W} {v : V} (rw' : Rep K H w v) :
    Paired (fun (p : W × W) (q : κ × V) => p.1 = f q.1 ∧ Rep K H p.2 q.2) (putW kvs (f k) w) (putK ks k v) := by
  unfold putW putK
  rw [rel_any inj r k]
  by_cases e : (ks.any fun kv => decide (kv.1 = k)) = true
  · rw [if_pos e, if_pos e]
    clear e
    induction r with
    | nil => exact .nil
    | @cons p q ps qs h t ih =>
      refine .cons ?_ ih
      by_cases e : q.1 = k
      · have e' : p.1 = f k := by rw [h.1, e]
        dsimp only
        rw [if_pos e, if_pos e']
        exact ⟨h.1, rw'⟩
      · have e' : ¬ p.1 = f k := fun z => e (inj _ _ (h.1.symm.trans z))
        dsimp only
        rw [if_neg e, if_neg e']
        exact h
  · rw [if_neg e, if_neg e]
    exact Paired.snoc r ⟨rfl, rw'⟩
theorem Paired.len {α β : Type} {F : α → β → Prop} {x : List α} {y : List β} (h : Paired F x y) : x.length = y.length := Paired.length h
theorem tkey_inj (a b : List Key) (h : W.tup (a.map keyS) = W.tup (b.map keyS)) : a = b := keySs_inj (W.tup.inj h)
theorem dget_of {G : WH} {a : Addr} {t : Bool} {kvs : List (W × W)} {w : W} {y : V} (S : Sim K G H) (e : G a = some (.dct t kvs)) (hk : isKey t w = true) (r : Rep K H w y) :
    ∃ o, DGet K H a y o ∧ ((∃ z v, lookW kvs w = some z ∧ o = some v ∧ Rep K H z v) ∨ (lookW kvs w = none ∧ o = none)) := by
  have q := S a _ e
  cases t with
  | false =>
    obtain ⟨ks, h1, rel⟩ := q
    have : ∃ k, w = keyS k := by
      cases w <;> first | (cases hk; done) | skip
      case int i => exact ⟨.inl i, rfl⟩
      case str i => exact ⟨.inr i, rfl⟩
    obtain ⟨k, rfl⟩ := this
    obtain rfl := rep_key r
    refine ⟨valV ks k, .k h1, ?_⟩
    exact rel_look (f := keyS) (fun _ _ => keyS_inj) rel k
  | true =>
    obtain ⟨ks, h1, rel⟩ := q
    cases w <;> first | (cases hk; done) | skip
    case tup ws =>
      obtain ⟨k, rfl⟩ := keys_of hk
      obtain ⟨b, rfl, tb⟩ := rep_tkey r
      refine ⟨valV ks k, .t h1 tb, ?_⟩
      exact rel_look (f := fun k => W.tup (k.map keyS)) tkey_inj rel k
theorem dput_of {G : WH} {a : Addr} {t : Bool} {kvs : List (W × W)} {w z : W} {y v : V} (S : Sim K G H) (e : G a = some (.dct t kvs)) (hk : isKey t w = true) (r : Rep K H w y) (rz : Rep K H z v) (hl : kvs.length < sizeLine) :
    ∃ H', DPut K H a y v H' ∧ TX H H' ∧ Sim K (gup G a (.dct t (putW kvs w z))) H' := by
  have mu := (S a _ e).mut
  have q := S a _ e
  cases t with
  | false =>
    obtain ⟨ks, h1, rel⟩ := q
    have : ∃ k, w = keyS k := by
      cases w <;> first | (cases hk; done) | skip
      case int i => exact ⟨.inl i, rfl⟩
      case str i => exact ⟨.inr i, rfl⟩
    obtain ⟨k, rfl⟩ := this
    obtain rfl := rep_key r
    refine ⟨_, .k h1 (by rw [← Paired.len rel]; exact hl), .write mu, S.write mu (.dk upd_same ?_)⟩
    exact Paired.mapP (rel_put (f := keyS) (fun _ _ => keyS_inj) rel k rz) fun _ _ z => ⟨z.1, z.2.mono (.write mu)⟩
  | true =>
    obtain ⟨ks, h1, rel⟩ := q
    cases w <;> first | (cases hk; done) | skip
    case tup ws =>
      obtain ⟨k, rfl⟩ := keys_of hk
      obtain ⟨b, rfl, tb⟩ := rep_tkey r
      refine ⟨_, .t h1 tb (by rw [← Paired.len rel]; exact hl), .write mu, S.write mu (.dt upd_same ?_)⟩
      exact Paired.mapP (rel_put (f := fun k => W.tup (k.map keyS)) tkey_inj rel k rz) fun _ _ z => ⟨z.1, z.2.mono (.write mu)⟩
end
section
variable {X : Cx} {a b : Expr} {ta tb : TE2} {pos : Pos}
def rIxD (K : PySem.W.Frag) : R2 := fun x y H Q => ∃ p v, x = .ref p ∧ DGet K H p y (some v) ∧ Q v H
theorem ix_dict (hu : X.A.units + 1 < cLine) : IxR X (rIxD X.K) := by
  rintro value slice pins s σ H x y v u Q I rx ry ⟨p, z, rfl, g, q⟩ hs
  obtain rfl : v = Value.ref p := rx
  have hT := dict_typeIs I g
  unfold subscriptTail
  refine wpAny_bind ?_
  rw [getitemInPython_of_ne hT.not_modules]
  refine wpAny_bind (wpAny_specialOf hT PySem.F.slot_dict_getitem.lookup ?_)
  have fin : wpAny (model X.prog X.w) X.A (subscripted slice false (.ref p) u) (fun r s₃ => wpAny (model X.prog X.w) X.A (letTemporaryGo value (.ref p) r >>= fun _ => pure r) (EP X pins σ Q) X.xe s₃) X.xe s := by
    rw [hs]
    exact wpAny_operating (d_getItem hu I g ry fun w' s3 I3 rw' => wpAny_bind (wpAny_letTemporaryGo (wpAny_pure ⟨z, H, I3, rw', q⟩)))
  first
    | exact wpAny_pure (wpAny_bind fin)
    | exact wpAny_bind (wpAny_pure (wpAny_bind fin))
    | exact wpAny_bind fin
def ix2 : R22 := fun x y G Q => match x with
  | .tup ws => (match y with
    | .int i => ∃ w, atI ws i = some w ∧ Q w G
    | _ => False)
  | .scr ws => (match y with
    | .int i => ∃ w, atI ws i = some w ∧ Q w G
    | _ => False)
  | .ref a => (match G a with
    | some (.lst ws) => (match y with
      | .int i => ∃ w, atI ws i = some w ∧ Q w G
      | _ => False)
    | some (.dct t kvs) => isKey t y = true ∧ ∃ w, lookW kvs y = some w ∧ Q w G
    | _ => False)
  | .str z => (match y with
    | .int i => z.length ≤ sizeLine ∧ ∃ c, atI z.cps.toList i = some c ∧ Q (.str ⟨#[c]⟩) G
    | _ => False)
  | _ => False
theorem atI_rep {K : PySem.W.Frag} {H : Hp} {ws : List W} {vs : List V} {i : Int} {w : W} (r : Reps K H ws vs) (h : atI ws i = some w) : ∃ v, atI vs i = some v ∧ Rep K H w v := by
  unfold atI at h ⊢
  rw [← r.length]
  cases e : ixN ws.length i with
  | none => rw [e] at h; cases h
  | some j => rw [e] at h; exact r.get h
theorem e_ix (hu : X.A.units + 1 < cLine) (ha : PE2 X a ta) (hb : PE2 X b tb) (hs : PlainIx b := by exact fun _ _ => rfl) : PE2 X (.Subscript a b pos) (uOp ix2 ta tb) := by
  simp only [PE2] at *
  have hr : IxR X (lowR X.K ix2) := by
    have h := (ix_seq (X := X)).or (ix_dict hu)
    intro value slice pins s σ H x y v u Q I rx ry q hs'
    refine h value slice pins s σ H x y v u Q I rx ry ?_ hs'
    obtain ⟨w, w', G, Q2, S, r1, r2, q, c⟩ := q
    unfold ix2 at q
    cases w <;> first | exact False.elim q | skip
    case tup ws =>
      cases w' <;> first | exact False.elim q | skip
      cases r2
      obtain ⟨z, e, q⟩ := q
      cases r1 with
      | tup t r =>
        obtain ⟨zv, e', rz⟩ := atI_rep r e
        exact .inl (.inr (.inl ⟨_, _, _, zv, rfl, rfl, t.sq, e', c _ H _ G (.refl H) S rz q⟩))
    case scr ws =>
      cases w' <;> first | exact False.elim q | skip
      cases r2
      obtain ⟨z, e, q⟩ := q
      cases r1 with
      | scr t r =>
        obtain ⟨zv, e', rz⟩ := atI_rep r e
        exact .inl (.inl ⟨_, _, _, zv, rfl, rfl, t.sq, e', c _ H _ G (.refl H) S rz q⟩)
    case str z =>
      cases w' <;> first | exact False.elim q | skip
      cases r2
      cases r1
      obtain ⟨hz, ch, e, q⟩ := q
      exact .inl (.inr (.inr ⟨_, _, ch, rfl, rfl, hz, e, c _ H _ G (.refl H) S (.str _) q⟩))
    case ref p =>
      cases r1
      dsimp only at q
      cases e : G p with
      | none => rw [e] at q; exact False.elim q
      | some o =>
        rw [e] at q
        cases o with
        | lst ws =>
          cases w' <;> first | exact False.elim q | skip
          cases r2
          obtain ⟨z, e1, q⟩ := q
          obtain ⟨vs, hv, rv⟩ := S _ _ e
          obtain ⟨zv, e', rz⟩ := atI_rep rv e1
          exact .inl (.inl ⟨_, _, _, zv, rfl, rfl, .of hv, e', c _ H _ G (.refl H) S rz q⟩)
        | dct t kvs =>
          obtain ⟨hk, z, e1, q⟩ := q
          obtain ⟨o, g, hh⟩ := dget_of S e hk r2
          rcases hh with ⟨z', zv, e2, rfl, rz⟩ | ⟨e2, _⟩
          · rw [e1] at e2; cases e2
            exact .inr ⟨p, zv, rfl, g, c _ H _ G (.refl H) S rz q⟩
          · rw [e1] at e2; cases e2
        | ins C fs => exact False.elim q
  exact PE.imp (pe_ix hr ha hb hs) low_op
abbrev TSet2 := W → W → W → WH → (WH → Prop) → Prop
def lowSet (K : PySem.W.Frag) (t : TSet2) : TSet := fun o i v H Q => ∃ ow iw vw G Q2, Sim K G H ∧ Rep K H ow o ∧ Rep K H iw i ∧ Rep K H vw v ∧ t ow iw vw G Q2 ∧ ∀ H' G', TX H H' → Sim K G' H' → Q2 G' → Q H'
def set2 : TSet2 := fun o i v G Q => match o with
  | .ref a => (match G a with
    | some (.lst ws) => (match i with
      | .int k => ∃ j, ixN ws.length k = some j ∧ Q (gup G a (.lst (ws.set j v)))
      | _ => False)
    | some (.dct t kvs) => isKey t i = true ∧ kvs.length < sizeLine ∧ Q (gup G a (.dct t (putW kvs i v)))
    | _ => False)
  | _ => False
def rSetD (K : PySem.W.Frag) : TSet := fun o i v H Q => ∃ p H', o = .ref p ∧ DPut K H p i v H' ∧ Q H'
theorem set_dict (hu : X.A.units + 1 < cLine) : PSet X (rSetD X.K) := by
  rintro pins s σ H o i v ov iv u Q I ro ri rv ⟨p, H', rfl, g, q⟩
  obtain rfl : ov = Value.ref p := ro
  exact d_setItem hu I g ri rv fun s' I' => ⟨H', I', q⟩
theorem p_set (hu : X.A.units + 1 < cLine) : PSet X (lowSet X.K set2) := by
  rintro pins s σ H o i v ov iv u Q I ro ri rv ⟨ow, iw, vw, G, Q2, S, r1, r2, r3, q, c⟩
  unfold set2 at q
  cases ow <;> first | exact False.elim q | skip
  case ref p =>
    cases r1
    dsimp only at q
    cases e : G p with
    | none => rw [e] at q; exact False.elim q
    | some ob =>
      rw [e] at q
      cases ob with
      | lst ws =>
        cases iw <;> first | exact False.elim q | skip
        cases r2
        obtain ⟨j, e1, q⟩ := q
        have mu := (S _ _ e).mut
        obtain ⟨vs, hv, rvs⟩ := S _ _ e
        refine set_list pins s σ H _ _ v ov iv u Q I ro ri rv ⟨p, vs, _, j, rfl, rfl, hv, by rw [← rvs.length]; exact e1, ?_⟩
        exact c _ _ (.write mu) (S.write mu (.l upd_same ((rvs.set r3 j).mono (.write mu)))) q
      | dct t kvs =>
        obtain ⟨hk, hl, q⟩ := q
        obtain ⟨H', g, tx, S'⟩ := dput_of S e hk r2 r3 hl
        exact set_dict hu pins s σ H _ i v ov iv u Q I ro ri rv ⟨p, H', rfl, g, c H' _ tx S' q⟩
      | ins C fs => exact False.elim q
def uGSub (to ti : TE2) : TG2 := fun v τ G Q => to τ G fun o G1 => ti τ G1 fun i G2 => set2 o i v G2 fun G3 => Q τ G3
theorem g_sub (hu : X.A.units + 1 < cLine) {o i : Expr} {to ti : TE2} (ho : PE2 X o to) (hi : PE2 X i ti)
    (ha : ∀ v, assign (.Subscript o i pos) X.env v = (do
      let ov ← holding [v] (eval o X.env)
      let iv ← holding [v, ov] (eval i X.env)
      standAt pos
      holding [v, ov, iv] (setItem ov iv v)
      release [v, ov, iv] []) := by intro _; rfl) : PG2 X (.Subscript o i pos) (uGSub to ti) := by
  simp only [PE2, PG2] at *
  exact (PG.imp (pg_sub ho hi (p_set hu) ha) fun v σ H Q ⟨w, τ, G, Q2, r, hs, hg, ht, c⟩ =>
    ⟨τ, G, _, hs, hg, ht, fun ov H1 ow G1 t1 s1 r1 h1 => ⟨τ, G1, _, hs.mono t1, s1, h1, fun iv H2 iw G2 t2 s2 r2 h2 =>
      ⟨ow, iw, w, G2, _, s2, r1.mono t2, r2, r.mono (t1.trans t2), h2, fun H3 G3 t3 s3 h3 => c _ H3 _ G3 ((t1.trans t2).trans t3) (hs.mono ((t1.trans t2).trans t3)) s3 h3⟩⟩⟩)
end
end L3
namespace L3
open PySem PySem.Spec L2
open PyProof.Rows hiding St
def putFW (f : Str) (v : W) : List (Str × W) → List (Str × W)
  | [] => [(f, v)]
  | (g, w) :: r => if g = f then (g, v) :: r else (g, w) :: putFW f v r
abbrev FRel (K : PySem.W.Frag) (H : Hp) : List (Str × W) → List (Str × V) → Prop := Paired fun (p : Str × W) (q : Str × V) => p.1 = q.1 ∧ Rep K H p.2 q.2
section
variable {K : PySem.W.Frag} {H : Hp}
theorem FRel.put {fs : List (Str × W)} {gs : List (Str × V)} (r : FRel K H fs gs) (f : Str) {w : W} {v : V} (h : Rep K H w v) : FRel K H (putFW f w fs) (putF f v gs) := by
  induction r with
  | nil => exact .cons ⟨rfl, h⟩ .nil
  | @cons p q ps qs hh t ih =>
    obtain ⟨g, w'⟩ := p
    obtain ⟨g', v'⟩ := q
    obtain ⟨h1, h2⟩ := hh
    simp only at h1 h2
    subst h1
    unfold putFW putF
    by_cases e : g = f
    · rw [if_pos e, if_pos e]; exact .cons ⟨rfl, h⟩ t
    · rw [if_neg e, if_neg e]; exact .cons ⟨rfl, h2⟩ ih
end
section
variable {X : Cx} {o e value : Expr} {f : Str} {pos pos' : Pos} {ta tv : TE2} {C : Addr}
def uSFld (C : Addr) (f : Str) (ta tv : TE2) : TS2 := fun D τ G => tv τ G fun y G1 => ta τ G1 fun x G2 => match x with
  | .ref a => ∃ fs, G2 a = some (.ins C fs) ∧ fs.length < 1000 ∧ D.nx τ (gup G2 a (.ins C (putFW f y fs)))
  | _ => False
theorem s_fld (cl : Cls X.K C) (n : NoAttr X.K C f) (ha : PE2 X o ta) (hv : PE2 X value tv) (hs : swapsWith value (some (.Attribute o f pos')) pos.line X.env = pure false := by rfl) : PS2 X (.Assign [.Attribute o f pos'] value pos) (uSFld C f ta tv) := by
  simp only [PE2, PS2] at *
  exact (PS.imp (ps_fld ha hv hs) fun D σ H ⟨τ, G, D2, hs, hg, ht, le⟩ => ⟨τ, G, _, hs, hg, ht, fun y H1 yw G1 t1 s1 r1 h1 => ⟨τ, G1, _, hs.mono t1, s1, h1, fun v H2 w G2 t2 s2 r2 h2 => by
    cases w <;> first | exact False.elim h2 | skip
    cases r2
    obtain ⟨fs, e1, hl, q⟩ := h2
    have mu := (s2 _ _ e1).mut
    obtain ⟨dx, gs, h3, rel⟩ := s2 _ _ e1
    refine ⟨_, C, dx, gs, rfl, h3, cl, n, by rw [← Paired.len rel]; exact hl, ?_⟩
    have t3 := (t1.trans t2).trans (TX.write (o := .ins C dx (putF f y gs)) mu)
    refine le.nx σ _ τ _ t3 (hs.mono t3) (s2.write mu (.i upd_same ?_)) q
    exact Paired.mapP (FRel.put rel f (r1.mono t2)) fun _ _ z => ⟨z.1, z.2.mono (.write mu)⟩⟩⟩)
end
abbrev XK2 := Value → List (Str × W) → WH → Prop
abbrev Sp2 := List W → WH → VK2 → XK2 → Prop
def XRel (K : PySem.W.Frag) (H : Hp) (xd : Option Addr) (fs : List (Str × W)) : Prop := match xd with
  | none => fs = []
  | some d => ∃ gs, H d = some (.xd gs) ∧ FRel K H fs gs
def ContX (K : PySem.W.Frag) (H : Hp) (E2 : XK2) (E : XK) : Prop := ∀ c xd H' fs G', TX H H' → Sim K G' H' → XRel K H' xd fs → E2 c fs G' → E c xd H'
def lowSp (K : PySem.W.Frag) (sp : Sp2) : Sp := fun vs H Q E => ∃ ws G Q2 E2, Reps K H ws vs ∧ Sim K G H ∧ sp ws G Q2 E2 ∧ Cont K H Q2 Q ∧ ContX K H E2 E
def noX : XK2 := fun _ _ _ => False
theorem contX0 {K : PySem.W.Frag} {H : Hp} : ContX K H noX E0 := fun _ _ _ _ _ _ _ _ h => h
section
variable {X : Cx} {k : Nat} {f C : Addr} {fd : FuncData} {ps : List Str} {sp : Sp2} {x m : Str} {p pos apos : Pos} {e o : Expr} {es : List Expr} {ta : TE2} {t : TA2}
def uCall (sp : Sp2) (dws : List W) (t : TA2) : TE2 := fun τ G Q => t τ G fun ws G1 => sp (ws ++ dws) G1 Q noX
theorem low_call {K : PySem.W.Frag} {dws : List W} {dvs : List V} (hd : ∀ H, Reps K H dws dvs) (σ : St) (H : Hp) (Q : VK) (h : low K (uCall sp dws t) σ H Q) : tCall (lowSp K sp) dvs E0 (lowA K t) σ H Q := by
  obtain ⟨τ, G, Q2, hs, hg, ht, hc⟩ := h
  exact ⟨τ, G, _, hs, hg, ht, fun vs H1 ws G1 t1 s1 r1 h1 => ⟨_, G1, Q2, noX, r1.append (hd H1), s1, h1, hc.mono t1, contX0⟩⟩
theorem e_call (F : FnOk X.prog X.w X.K X.mg X.base CX0 k f fd ps (lowSp X.K sp)) (hr : Room k X.A) (hg : Gl X x) (hm : X.mg x = some (.ref f)) (hk : PySem.W.keepIn X.K (.ref f) = true) (hb : Binds X.K fd ps [])
    (ha : PA2 X (e :: es) t) (hdb : (x == ("__debug__" : Str)) = false := by decide) (he : starEach (e :: es) X.env = (false, eval e X.env) :: starEach es X.env := by rfl) (hpl : (backTo pos (starEach es X.env)).any (·.1) = false := by rfl) :
    PE2 X (.Call (.Name x p) (e :: es) [] pos) (uCall sp [] t) := by
  simp only [PE2, PA2] at *
  exact (PE.imp (pe_call F hr hg hm hk hb .nil pass0 ha hdb he hpl) (low_call fun _ => .nil))
end
def start2 (N : List Str) (ws : List W) : St2 := ws.map some ++ List.replicate (N.length - ws.length) none
theorem Reps.begin {K : PySem.W.Frag} {H : Hp} {N : List Str} {ws : List W} {vs : List V} (r : Reps K H ws vs) : SimS K H (start2 N ws) (start N vs) := by
  have hl := r.length
  refine ⟨by simp [start2, L2.start, hl], fun i w e => ?_⟩
  unfold start2 at e
  unfold L2.start
  by_cases hi : i < ws.length
  · rw [List.getElem?_append_left (by simpa using hi), List.getElem?_map] at e
    cases q : ws[i]? with
    | none => rw [q] at e; cases e
    | some z =>
      rw [q] at e
      have e' : z = w := by
        have e1 : some (some z) = some (some w) := e
        exact Option.some.inj (Option.some.inj e1)
      subst e'
      obtain ⟨v, hv, rv⟩ := r.get q
      refine ⟨v, ?_, rv⟩
      rw [List.getElem?_append_left (by simp; omega), List.getElem?_map, hv]
      rfl
  · rw [List.getElem?_append_right (by simpa using hi), List.getElem?_replicate] at e
    split at e <;> cases e
def Less (Q : VK2) : VK2 := fun w G' => ∃ G0, (∀ b u, G0 b = some u → G' b = some u) ∧ Q w G0
theorem Less.of {Q : VK2} {w : W} {G : WH} (h : Q w G) : Less Q w G := ⟨G, fun _ _ e => e, h⟩
def ends (Q : VK2) : Ends2 := { nx := fun _ G' => Less Q .non G', rt := Less Q }
section
variable {P : Program} {w : World} {K : PySem.W.Frag} {mg : Str → Option Value} {base : Heap}
theorem fun_ok2 {x qual : Str} {st : Stmt} {f : Addr} {fd : FuncData} {N ps : List Str} {k : Nat} {sp : Sp2} (F : Fun K x qual st f fd) (S : FnScope N ps (defScope st)) (len : ∀ ws G Q E, sp ws G Q E → ws.length = ps.length)
    (hbody : ∀ (cdv : Value) (A : Around) (outer : List Env) (s : Shared) (H : Hp) (E : XK), Room k (A.deeper (envOfC qual (defScope st) s.heap.objs.size f cdv)) → ∀ (ws : List W) (G : WH) (Q : VK2) (E2 : XK2), sp ws G Q E2 →
      ∃ t, PSs2 (cxOf CX0 P w K mg base N qual (defScope st) f cdv A outer s H E).nox (defBody st) t ∧ t (ends Q) (start2 N ws) G) : FnOk P w K mg base CX0 (k + 1) f fd ps (lowSp K sp) := by
  simp only [PSs2] at *
  refine F.ok S (fun vs H Q E ⟨ws, G, Q2, E2, r, s, h, _⟩ => by rw [← r.length]; exact len _ _ _ _ h) fun cdv A outer s H vs Q E hr ⟨ws, G, Q2, E2, r, hg, h, hc, hx⟩ => ?_
  obtain ⟨t, ht, q⟩ := hbody cdv A outer s H E hr ws G Q2 E2 h
  refine ⟨_, ht, start2 N ws, G, _, r.begin, hg, q, ⟨fun σ' H' τ' G' t1 s1 g1 ⟨G0, le, h1⟩ => hc _ H' _ G0 t1 (g1.less le) .non h1, fun v H' w' G' t1 s1 r1 ⟨G0, le, h1⟩ => hc v H' w' G0 t1 (s1.less le) r1 h1, fun _ _ _ _ _ _ _ h => h, fun _ _ _ _ _ _ _ h => h⟩⟩
end
section
variable {X : Cx} {tg : Expr} {pos : Pos}
def iSeq (K : PySem.W.Frag) (tl : TE) : TI := fun σ H R => tl σ H fun x H1 => ∃ a, x = .ref a ∧ (((∃ xs, SqL K H1 a xs) ∧ R (Itl K a) H1) ∨ ((∃ xs, SqT K H1 a xs) ∧ R (Itt K a) H1))
theorem pi_seq {l : Expr} {tl : TE} (hl : PE X l tl) : PI X tg l (iSeq X.K tl) := by
  intro pins s σ H R I h
  refine thn (hl pins s σ H _ I h) fun v s1 ⟨x, H1, I1, r1, q1⟩ => ?_
  obtain ⟨a, e, q1⟩ := q1
  subst e
  cases r1
  rcases q1 with ⟨⟨xs, hq⟩, q⟩ | ⟨⟨xs, hq⟩, q⟩
  · obtain ⟨its, rv, p, hz⟩ := I1.list hq
    refine wpAny_pyIter_list p.isList ?_
    refine ⟨s1.heap.objs.size, [s1.heap.objs.size], _, _, H1, rfl, I1.kept (t' := s1.toks) fun b o e => Heap.get?_push_of_some _ e, turn_list a _, ⟨_, Heap.get?_push_size _ rfl, rfl, rfl⟩, fun b hb => ?_, q⟩
    have e : b = s1.heap.objs.size := by simpa using hb
    subst e
    exact I1.fpOk (Nat.le_refl _) (I1.hok.fresh (Nat.le_refl _))
  · obtain ⟨its, rv, p, hz⟩ := I1.tuple hq
    refine wpAny_pyIter_tuple (show s1.heap.IsTuple a its.toArray from p) ?_
    refine ⟨s1.heap.objs.size, [s1.heap.objs.size], _, _, H1, rfl, I1.kept (t' := s1.toks) fun b o e => Heap.get?_push_of_some _ e, turn_tuple a _, ⟨_, Heap.get?_push_size _ rfl, rfl, rfl⟩, fun b hb => ?_, q⟩
    have e : b = s1.heap.objs.size := by simpa using hb
    subst e
    exact I1.fpOk (Nat.le_refl _) (I1.hok.fresh (Nat.le_refl _))
def LessS (P : St2 → WH → Prop) : St2 → WH → Prop := fun τ G => ∃ G0, (∀ b u, G0 b = some u → G b = some u) ∧ P τ G0
def uLoop : List W → (WH → Prop) → TG2 → TS2 → TS2
  | [], valid, _, _ => fun D τ G => valid G ∧ D.nx τ G
  | w :: ws, valid, g, tb => fun D τ G => valid G ∧ g w τ G fun τ2 G2 => tb { D with nx := LessS (uLoop ws valid g tb D), ct := LessS (uLoop ws valid g tb D), bk := D.nx } τ2 G2
theorem loop_invL {valid : WH → Prop} {g : TG2} {tb : TS2} {D : Ends2} (P : Nat → St2 → WH → Prop) : ∀ (ws : List W) (k : Nat) (τ : St2) (G : WH), P k τ G → (∀ i τ G, k ≤ i → i ≤ k + ws.length → P i τ G → valid G) →
    (∀ i w τ G, ws[i]? = some w → P (k + i) τ G → ∀ N : St2 → WH → Prop, (∀ τ' G' G0, (∀ b u, G0 b = some u → G' b = some u) → P (k + i + 1) τ' G0 → N τ' G') → g w τ G fun τ2 G2 => tb { D with nx := N, ct := N, bk := D.nx } τ2 G2) →
    (∀ τ G, P (k + ws.length) τ G → D.nx τ G) → uLoop ws valid g tb D τ G
  | [], k, τ, G, p, va, st, en => ⟨va k τ G (Nat.le_refl _) (Nat.le_add_right _ _) p, en τ G p⟩
  | w :: ws, k, τ, G, p, va, st, en => by
    refine ⟨va k τ G (Nat.le_refl _) (Nat.le_add_right _ _) p, ?_⟩
    refine st 0 w τ G rfl p (LessS (uLoop ws valid g tb D)) fun τ' G' G0 le p' => ⟨G0, le, ?_⟩
    refine loop_invL P ws (k + 1) τ' G0 p' (fun i τ G h1 h2 => va i τ G (by omega) (by simp; omega)) (fun i w τ G h p N hN => ?_) fun τ G p => en τ G ?_
    · refine st (i + 1) w τ G (by simpa using h) (by rw [show k + (i + 1) = k + 1 + i by omega]; exact p) N fun τ' G' G0 le p' => hN τ' G' G0 le ?_
      rw [show k + 1 + i + 1 = k + (i + 1) + 1 by omega]; exact p'
    · rw [show k + (w :: ws).length = k + 1 + ws.length by simp; omega]; exact p
theorem loop_inv {valid : WH → Prop} {g : TG2} {tb : TS2} {D : Ends2} (P : Nat → St2 → WH → Prop) (ws : List W) (k : Nat) (τ : St2) (G : WH) (p : P k τ G) (va : ∀ i τ G, k ≤ i → i ≤ k + ws.length → P i τ G → valid G)
    (st : ∀ i w τ G, ws[i]? = some w → P (k + i) τ G → ∀ N : St2 → WH → Prop, (∀ τ' G', P (k + i + 1) τ' G' → N τ' G') → g w τ G fun τ2 G2 => tb { D with nx := N, ct := N, bk := D.nx } τ2 G2)
    (en : ∀ τ G, P (k + ws.length) τ G → D.nx τ G) : uLoop ws valid g tb D τ G :=
  loop_invL P ws k τ G p va (fun i w τ G h p N hN => st i w τ G h p N fun τ' G' q => hN τ' G' G' (fun _ _ e => e) q) en
theorem loop_low {K : PySem.W.Frag} {J : It} {ws : List W} {valid : WH → Prop} {g : TG2} {tb : TS2} {D2 : Ends2} {D : Ends} {τ : St2} {σ : St} {G1 : WH} {H1 : Hp} (hs : SimS K H1 τ σ) (hg : Sim K G1 H1) (le : EndsLe K H1 D2 D)
    (hgo : ∀ i H G w, TX H1 H → Sim K G H → valid G → ws[i]? = some w → J.go i H ∧ ∀ x H', J.yld i H x H' → TX H H' ∧ Sim K G H' ∧ Rep K H' w x)
    (hstop : ∀ H G, TX H1 H → Sim K G H → valid G → J.stop ws.length H) (h : uLoop ws valid g tb D2 τ G1) :
    ∃ W' : Nat → Nat → St → Hp → Prop, (∃ m, W' 0 m σ H1) ∧ ∀ i m σ H, W' i m σ H →
      (J.stop i H ∧ D.nx σ H) ∨ (J.go i H ∧ ∃ N : St → Hp → Prop, (∀ σ' H', N σ' H' → ∃ m', m' < m ∧ W' (i + 1) m' σ' H') ∧ ∀ x H', J.yld i H x H' → lowG K g x σ H' fun σ2 H2 => lowS K tb { D with nx := N, ct := N, bk := D.nx } σ2 H2) := by
  refine ⟨fun i m σ H => m = ws.length - i ∧ i ≤ ws.length ∧ ∃ τ G, SimS K H τ σ ∧ Sim K G H ∧ uLoop (ws.drop i) valid g tb D2 τ G ∧ TX H1 H, ⟨ws.length, by simp, Nat.zero_le _, τ, G1, hs, hg, h, .refl H1⟩, ?_⟩
  rintro i m σ H ⟨rfl, hi, τ, G, s1, g1, p, tx⟩
  by_cases hlt : i < ws.length
  · rw [List.drop_eq_getElem_cons hlt] at p
    obtain ⟨va, p⟩ := p
    obtain ⟨go, yld⟩ := hgo i H G ws[i] tx g1 va (by simp [hlt])
    refine .inr ⟨go, fun σ' H' => ∃ τ' G', SimS K H' τ' σ' ∧ Sim K G' H' ∧ uLoop (ws.drop (i + 1)) valid g tb D2 τ' G' ∧ TX H1 H', fun σ' H' ⟨τ', G', a, b, c, d⟩ => ⟨ws.length - (i + 1), by omega, rfl, hlt, τ', G', a, b, c, d⟩, fun x H' y => ?_⟩
    obtain ⟨t2, g2, r2⟩ := yld x H' y
    refine ⟨ws[i], τ, G, _, r2, s1.mono t2, g2, p, fun σ2 H2 τ2 G2 t3 s3 g3 h3 => ?_⟩
    have t4 := (tx.trans t2).trans t3
    refine ⟨τ2, G2, _, s3, g3, h3, ⟨fun σ' H' τ' G' t s g ⟨G0, le0, h⟩ => ⟨τ', G0, s, g.less le0, h, t4.trans t⟩, (le.mono t4).rt, fun σ' H' τ' G' t s g h => le.nx σ' H' τ' G' (t4.trans t) s g h, fun σ' H' τ' G' t s g ⟨G0, le0, h⟩ => ⟨τ', G0, s, g.less le0, h, t4.trans t⟩⟩⟩
  · have e : i = ws.length := by omega
    subst e
    rw [List.drop_length] at p
    exact .inl ⟨hstop H G tx g1 p.1, le.nx σ H τ G tx s1 g1 p.2⟩
def uFor (ta : TE2) (g : TG2) (tb : TS2) : TS2 := fun D τ G => ta τ G fun w G1 => match w with
  | .scr ws => uLoop ws (fun _ => True) g tb D τ G1
  | .tup ws => uLoop ws (fun _ => True) g tb D τ G1
  | .ref a => ∃ ws, G1 a = some (.lst ws) ∧ uLoop ws (fun G => G a = some (.lst ws)) g tb D τ G1
  | _ => False
theorem s_for {iter : Expr} {body : List Stmt} {ta : TE2} {g : TG2} {tb : TS2} (hp : PassesOwn (model X.prog X.w) X.A X.env X.xe) (hc : X.calm = true) (hi : PE2 X iter ta) (hg : PG2 X tg g) (hb : PSs2 X body tb)
    (hs : ∀ x, foldedSetIterable iter X.env x = pure x := by intro _; rfl) : PS2 X (.For tg iter body [] pos) (uFor ta g tb) := by
  simp only [PE2, PS2, PSs2, PG2] at *
  exact (PS.imp (ps_for hp hc (pi_seq hi) hg hb hs) fun D σ H ⟨τ, G, D2, hs, hg, ht, le⟩ => ⟨τ, G, _, hs, hg, ht, fun v H1 w G1 t1 s1 r1 h1 => by
    cases w <;> first | exact False.elim h1 | skip
    case scr ws =>
      cases r1 with
      | @scr a vs _ t r =>
        refine ⟨_, rfl, .inl ⟨⟨_, t.sq⟩, loop_low (hs.mono t1) s1 (le.mono t1) (fun i H' G' w' tx sg _ e => ?_) (fun H' G' tx sg _ => ⟨_, (t.mono tx).sq, by rw [← r.length]; exact Nat.le_refl _⟩) h1⟩⟩
        obtain ⟨v, e', rv⟩ := r.get e
        exact ⟨⟨_, v, (t.mono tx).sq, e'⟩, fun x H'' ⟨eq, y⟩ => by subst eq; have := y _ (t.mono tx).sq; rw [e'] at this; cases this; exact ⟨.refl _, sg, rv.mono tx⟩⟩
    case tup ws =>
      cases r1 with
      | @tup a vs _ t r =>
        refine ⟨_, rfl, .inr ⟨⟨_, t.sq⟩, loop_low (hs.mono t1) s1 (le.mono t1) (fun i H' G' w' tx sg _ e => ?_) (fun H' G' tx sg _ => ⟨_, (t.mono tx.tup).sq, by rw [← r.length]; exact Nat.le_refl _⟩) h1⟩⟩
        obtain ⟨v, e', rv⟩ := r.get e
        exact ⟨⟨_, v, (t.mono tx.tup).sq, e'⟩, fun x H'' ⟨eq, y⟩ => by subst eq; have := y _ (t.mono tx.tup).sq; rw [e'] at this; cases this; exact ⟨.refl _, sg, rv.mono tx⟩⟩
    case ref a =>
      cases r1
      obtain ⟨ws, e1, h1⟩ := h1
      obtain ⟨vs0, hv0, _⟩ := s1 _ _ e1
      refine ⟨_, rfl, .inl ⟨⟨_, .of hv0⟩, loop_low (hs.mono t1) s1 (le.mono t1) (fun i H' G' w' tx sg va e => ?_) (fun H' G' tx sg va => ?_) h1⟩⟩
      · obtain ⟨vs, hv, r⟩ := sg _ _ va
        obtain ⟨v, e', rv⟩ := r.get e
        exact ⟨⟨_, v, .of hv, e'⟩, fun x H'' ⟨eq, y⟩ => by subst eq; have := y _ (.of hv); rw [e'] at this; cases this; exact ⟨.refl _, sg, rv⟩⟩
      · obtain ⟨vs, hv, r⟩ := sg _ _ va
        exact ⟨_, .of hv, by rw [← r.length]; exact Nat.le_refl _⟩⟩)
def rangeW (lo : Int) (n : Nat) : List W := (List.range n).map fun (k : Nat) => .int (lo + (k : Int))
theorem rangeW_len (lo : Int) (n : Nat) : (rangeW lo n).length = n := by simp [rangeW]
theorem rangeW_get {lo : Int} {n i : Nat} {w : W} (h : (rangeW lo n)[i]? = some w) : i < n ∧ w = .int (lo + i) := by
  have hl := (List.getElem?_eq_some_iff.mp h).1
  rw [rangeW_len] at hl
  refine ⟨hl, ?_⟩
  simp [rangeW, hl] at h
  exact h.symm
def uForR1 (t : TA2) (g : TG2) (tb : TS2) : TS2 := fun D τ G => t τ G fun ws G1 => match ws with
  | [.int j] => -(2 ^ 62) ≤ j ∧ j < 2 ^ 62 ∧ uLoop (rangeW 0 j.toNat) (fun _ => True) g tb D τ G1
  | _ => False
theorem range_low {K : PySem.W.Frag} {lo : Int} {n : Nat} {g : TG2} {tb : TS2} {D2 : Ends2} {D : Ends} {τ : St2} {σ : St} {G1 : WH} {H1 : Hp} (hs : SimS K H1 τ σ) (hg : Sim K G1 H1) (le : EndsLe K H1 D2 D) (h : uLoop (rangeW lo n) (fun _ => True) g tb D2 τ G1) :
    ∃ W' : Nat → Nat → St → Hp → Prop, (∃ m, W' 0 m σ H1) ∧ ∀ i m σ H, W' i m σ H →
      ((Itr lo n).stop i H ∧ D.nx σ H) ∨ ((Itr lo n).go i H ∧ ∃ N : St → Hp → Prop, (∀ σ' H', N σ' H' → ∃ m', m' < m ∧ W' (i + 1) m' σ' H') ∧ ∀ x H', (Itr lo n).yld i H x H' → lowG K g x σ H' fun σ2 H2 => lowS K tb { D with nx := N, ct := N, bk := D.nx } σ2 H2) :=
  loop_low (J := Itr lo n) hs hg le (fun i H' G' w' tx sg _ e => by
    obtain ⟨hi, rfl⟩ := rangeW_get e
    exact ⟨hi, fun x H'' ⟨eq, y⟩ => by subst eq y; exact ⟨.refl _, sg, .int _⟩⟩) (fun H' G' tx sg _ => by rw [rangeW_len]; exact Nat.le_refl _) h
theorem s_forR1 {a : Expr} {body : List Stmt} {t : TA2} {g : TG2} {tb : TS2} {p pos' : Pos} (hp : PassesOwn (model X.prog X.w) X.A X.env X.xe) (hc : X.calm = true) (hgl : Gl X "range") (hm : X.mg "range" = none) (ha : PA2 X [a] t) (hg : PG2 X tg g) (hb : PSs2 X body tb)
    (hs : starEach [a] X.env = [(false, eval a X.env)] := by rfl) (hf : ∀ x, foldedSetIterable (.Call (.Name "range" p) [a] [] pos') X.env x = pure x := by intro _; rfl) : PS2 X (.For tg (.Call (.Name "range" p) [a] [] pos') body [] pos) (uForR1 t g tb) := by
  simp only [PA2, PS2, PSs2, PG2] at *
  exact (PS.imp (ps_for hp hc (pi_range1 hgl hm ha hs) hg hb hf) fun D σ H ⟨τ, G, D2, hs, hg, ht, le⟩ => ⟨τ, G, _, hs, hg, ht, fun vs H1 ws G1 t1 s1 r1 h1 => by
    split at h1
    · cases r1 with | cons r1 r2 => cases r2; cases r1; exact ⟨_, rfl, h1.1, h1.2.1, range_low (hs.mono t1) s1 (le.mono t1) h1.2.2⟩
    · exact False.elim h1⟩)
end
end L3
namespace L3
open PySem PySem.Spec L2
open PyProof.Rows hiding St
theorem closure_go {env : Env} : ∀ (ns : List (Str × NameKind)) (acc : List (Str × Addr)), (∀ x ∈ ns, x.2 = .free → ∃ c, env.cells.lookup x.1 = some c) →
    ∃ cl, (forIn ns acc fun (x : Str × NameKind) (cs : List (Str × Addr)) => (if (x.2 == NameKind.free) = true then (do let c ← cellOf env x.1; pure (ForInStep.yield ((x.1, c) :: cs))) else pure (ForInStep.yield cs) : Sem (ForInStep (List (Str × Addr))))) = pure cl ∧
      ∀ n c, cl.lookup n = some c → acc.lookup n = some c ∨ (env.cells.lookup n = some c) := by
  intro ns
  induction ns with
  | nil => intro acc _; exact ⟨acc, rfl, fun n c h => .inl h⟩
  | cons x r ih =>
    intro acc h
    rw [List.forIn_cons]
    by_cases hk : x.2 = .free
    · obtain ⟨c, hc⟩ := h x List.mem_cons_self hk
      obtain ⟨cl, e, q⟩ := ih ((x.1, c) :: acc) fun y hy => h y (List.mem_cons_of_mem _ hy)
      refine ⟨cl, ?_, fun n c' hl => ?_⟩
      · rw [if_pos (by rw [hk]; rfl)]
        unfold cellOf
        rw [hc]
        exact e
      · rcases q n c' hl with z | z
        · rw [List.lookup_cons] at z
          cases hn : n == x.1 with
          | true =>
            rw [hn] at z
            have e1 : n = x.1 := by simpa using hn
            have e2 : c = c' := by simpa using z
            rw [e1, ← e2]
            exact .inr hc
          | false => rw [hn] at z; exact .inl z
        · exact .inr z
    · obtain ⟨cl, e, q⟩ := ih acc fun y hy => h y (List.mem_cons_of_mem _ hy)
      refine ⟨cl, ?_, q⟩
      rw [if_neg (by simpa using hk)]
      exact e
theorem closure_has {env : Env} : ∀ (ns : List (Str × NameKind)) (acc cl : List (Str × Addr)), (∀ x ∈ ns, x.2 = .free → ∃ c, env.cells.lookup x.1 = some c) →
    (forIn ns acc fun (x : Str × NameKind) (cs : List (Str × Addr)) => (if (x.2 == NameKind.free) = true then (do let c ← cellOf env x.1; pure (ForInStep.yield ((x.1, c) :: cs))) else pure (ForInStep.yield cs) : Sem (ForInStep (List (Str × Addr))))) = pure cl →
      ∀ n, (∃ c, acc.lookup n = some c) ∨ (n, NameKind.free) ∈ ns → ∃ c, cl.lookup n = some c := by
  intro ns
  induction ns with
  | nil =>
    intro acc cl _ e n h
    have e' : acc = cl := by
      have e0 : (pure acc : Sem (List (Str × Addr))) = pure cl := e
      injection e0
    subst e'
    rcases h with h | h
    · exact h
    · exact nomatch h
  | cons x r ih =>
    intro acc cl h e n hn
    rw [List.forIn_cons] at e
    by_cases hk : x.2 = .free
    · obtain ⟨c, hc⟩ := h x List.mem_cons_self hk
      rw [if_pos (by rw [hk]; rfl)] at e
      unfold cellOf at e
      rw [hc] at e
      refine ih ((x.1, c) :: acc) cl (fun y hy => h y (List.mem_cons_of_mem _ hy)) e n ?_
      rcases hn with ⟨c', hc'⟩ | hn
      · refine .inl ?_
        rw [List.lookup_cons]
        cases n == x.1 with
        | true => exact ⟨c, rfl⟩
        | false => exact ⟨c', hc'⟩
      · rcases List.mem_cons.mp hn with z | z
        · refine .inl ⟨c, ?_⟩
          rw [← z, List.lookup_cons]
          simp
        · exact .inr z
    · rw [if_neg (by simpa using hk)] at e
      refine ih acc cl (fun y hy => h y (List.mem_cons_of_mem _ hy)) e n ?_
      rcases hn with z | hn
      · exact .inl z
      · rcases List.mem_cons.mp hn with z | z
        · exact absurd (by rw [← z]) hk
        · exact .inr z
theorem closure_of {scope : Scope} {env : Env} (h : ∀ x ∈ scope.names, x.2 = .free → ∃ c, env.cells.lookup x.1 = some c) :
    ∃ cl, closureFor scope env = pure cl ∧ (∀ n c, cl.lookup n = some c → env.cells.lookup n = some c) ∧ ∀ n, (n, NameKind.free) ∈ scope.names → ∃ c, cl.lookup n = some c := by
  obtain ⟨cl, e, q⟩ := closure_go (env := env) scope.names [] h
  refine ⟨cl, ?_, fun n c hl => ?_, fun n hn => closure_has scope.names [] cl h e n (.inr hn)⟩
  · unfold closureFor
    exact (congrArg (fun m => m >>= fun cs => (pure cs : Sem (List (Str × Addr)))) e).trans rfl
  · rcases q n c hl with z | z
    · exact nomatch z
    · exact z
theorem relabel_mem {scope : Scope} {env : Env} {x : Str} {k : NameKind} (h : (relabel scope env).names.lookup x = some k) : ∃ k0, (x, k0) ∈ scope.names ∧ (k = k0 ∨ (k0 = .free ∧ k = .cell)) := by
  have hm := PySem.mem_of_lookup h
  obtain ⟨⟨n, k0⟩, hy, e⟩ := List.mem_map.mp hm
  dsimp only at e
  split at e
  · rename_i hc
    have e1 : n = x ∧ NameKind.cell = k := by simpa using e
    refine ⟨k0, by rw [← e1.1]; exact hy, .inr ⟨?_, e1.2.symm⟩⟩
    simp only [Bool.and_eq_true] at hc
    simpa using hc.1.1
  · have e1 : n = x ∧ k0 = k := by simpa using e
    exact ⟨k0, by rw [← e1.1]; exact hy, .inl e1.2.symm⟩
def cxBlock (X : Cx) (scope : Scope) (cl : List (Str × Addr)) (C : Addr) (s : Shared) (H : Hp) (fp : List Addr) (N : List Str) : Cx where
  prog := X.prog
  w := X.w
  K := X.K
  mg := X.mg
  base := X.base
  A := X.A
  N := N
  s₀ := s
  H₀ := H
  env := compEnvC scope cl C X.env
  outer := X.stack
  stack := X.stack
  ex := fp
  fn := fun _ => false
  calm := X.calm
  pn := []
  xe := fun _ _ => False
def PTs (X : Cx) (ifs : List Expr) (t : TT) : Prop :=
  ∀ (pins : List (Addr × Obj)) (s : Shared) (σ : St) (H : Hp) (Q : Bool → Hp → Prop), Inv X pins σ H s → t σ H Q →
    wpAny (model X.prog X.w) X.A (forIn ifs true fun c r => if r = true then do let ok ← isTrue c X.env (eval c X.env); pure (ForInStep.yield ok) else pure (ForInStep.yield r)) (TP X pins σ Q) X.xe s
theorem pts_nil {X : Cx} : PTs X [] (fun _ H Q => Q true H) := fun _ _ _ H _ I h => wpAny_tests_nil ⟨H, I, h⟩
theorem pts_one {X : Cx} {c : Expr} {t : TT} (h : PT X c t) : PTs X [c] t := fun pins s σ H Q I q => wpAny_tests_one (h pins s σ H Q I q)
def tComp (wi : TI) (g : TG) (tc : TT) (te : TE) (cap : List (Option Nat)) : TE := fun σ H Q => wi σ H fun J H1 => ∃ W : Nat → Nat → St → Hp → List V → Prop, (∃ m, W 0 m (cap.map fun o => o.bind fun j => (σ[j]?).join) H1 []) ∧
  ∀ i m σ' H' acc, W i m σ' H' acc → (J.stop i H' ∧ ∀ p, H' p = none → Q (.ref p) (upd H' p (.lst acc))) ∨
    (J.go i H' ∧ acc.length < sizeLine ∧ ∀ x H2, J.yld i H' x H2 → g x σ' H2 fun σ3 H3 => tc σ3 H3 fun b H4 => if b = true then te σ3 H4 fun y H5 => ∃ m', m' < m ∧ W (i + 1) m' σ3 H5 (acc ++ [y]) else ∃ m', m' < m ∧ W (i + 1) m' σ3 H4 acc)
section
variable {prog : Program} {w : World} {A : Around} {R : Result → Shared → Prop} {s : Shared}
theorem comp_loop {elt target iter : Expr} {ifs : List Expr} {scope : Scope} {pos : Pos} {it acc : Value} {env : Env} (I : Nat → Shared → Prop)
    (turn : ∀ n s, I n s → wpAny (model prog w) A (pyNext it) (fun r s₁ => match r with
      | none => R (.ok .next) s₁
      | some v => wpAny (model prog w) A (letOwnedTupleGo target it v) (fun _ s₁' => wpAny (model prog w) A (assign target env v) (fun _ s₂ =>
          wpAny (model prog w) A (forIn ifs true fun c r => if r = true then do let ok ← isTrue c env (eval c env); pure (ForInStep.yield ok) else pure (ForInStep.yield r)) (fun ok s₃ =>
            if ok = true then wpAny (model prog w) A (eval elt env) (fun x s₄ =>
              wpAny (model prog w) A (call (.builtin "list.append") [acc, x]) (fun _ s₅ => ∃ m, m < n ∧ I m s₅) (fun _ _ => False) s₄) (fun _ _ => False) s₃
            else ∃ m, m < n ∧ I m s₃) (fun _ _ => False) s₂) (fun _ _ => False) s₁') (fun _ _ => False) s₁) (fun _ _ => False) s)
    (n : Nat) (h : I n s) : codeAny (model prog w) A (.compLoop (.ListComp elt [⟨target, iter, ifs, 0⟩] scope pos) 0 it acc env) R s := by
  refine codeAny_loop rfl I (fun n s hI => ?_) n h
  show wpAny _ A ((compTurn (.ListComp elt [⟨target, iter, ifs, 0⟩] scope pos) 0 it acc env).onRaise (fun x => do noteFrame x env; theTreesLotGoes x)) _ _ s
  refine wpAny_noted ?_
  rw [compTurn_list]
  refine wpAny_bind (wpAny_standAt (wpAny_bind (wpAny_mono (turn n s hI) (fun r s₁ h₁ => ?_) fun _ _ f => f.elim)))
  cases r with
  | none => exact wpAny_pure h₁
  | some v =>
    refine wpAny_bind (wpAny_mono h₁ (fun _ s₁' h₁' => ?_) fun _ _ f => f.elim)
    refine wpAny_bind (wpAny_mono h₁' (fun _ s₂ h₂ => wpAny_bind (wpAny_mono h₂ (fun ok s₃ h₃ => ?_) fun _ _ f => f.elim)) fun _ _ f => f.elim)
    cases ok with
    | false => exact wpAny_pure ⟨rfl, h₃⟩
    | true =>
      exact wpAny_bind (wpAny_bind (wpAny_mono h₃ (fun x s₄ h₄ => wpAny_bind (wpAny_mono h₄ (fun _ s₅ h₅ => wpAny_pure (wpAny_pure ⟨rfl, h₅⟩)) fun _ _ f => f.elim)) fun _ _ f => f.elim))
end
section
variable {X : Cx} {elt tg iter : Expr} {ifs : List Expr} {scope : Scope} {pos : Pos} {wi : TI} {g : TG} {tc : TT} {te : TE} {cap : List (Option Nat)} {N' : List Str}
theorem block_ok {pins : List (Addr × Obj)} {σ : St} {H : Hp} {s : Shared} {cl : List (Str × Addr)} {C : Addr} {fp : List Addr} (I : Inv X pins σ H s) (hf : ∀ b ∈ fp, FpOk X pins H b ∧ b < s.heap.objs.size) (hC : s.heap.objs.size ≤ C) (hkind : scope.kind = .function)
    (hcell : ∀ y ∈ scope.names, y.2 ≠ .cell) (h1 : ∀ n c, cl.lookup n = some c → X.env.cells.lookup n = some c) (h2 : ∀ n, (n, NameKind.free) ∈ scope.names → ∃ c, cl.lookup n = some c) : (cxBlock X scope cl C s H fp N').Ok where
  mod := I.ok.mod
  kind := hkind
  glob := I.ok.glob
  blt := I.ok.blt
  above := hC
  inj := fun x y c hx hy => I.ok.inj x y c (h1 x c hx) (h1 y c hy)
  has := fun x hx => by
    have : ∃ k0, (x, k0) ∈ scope.names ∧ k0 = .free := by
      rcases hx with hx | hx
      · obtain ⟨k0, m, e⟩ := relabel_mem hx
        rcases e with e | ⟨e, _⟩
        · exact absurd e.symm (hcell _ m)
        · exact ⟨k0, m, e⟩
      · obtain ⟨k0, m, e⟩ := relabel_mem hx
        rcases e with e | ⟨e, _⟩
        · exact ⟨k0, m, e.symm⟩
        · exact ⟨k0, m, e⟩
    obtain ⟨k0, m, e⟩ := this
    subst e
    exact h2 x m
  cab := fun x c h => by cases h
  hd := I.ok.hd
  frames := I.ok.frames
  stk := .inl rfl
  exf := fun b hb => ⟨Nat.ne_of_lt (Nat.lt_of_lt_of_le (hf b hb).2 hC), fun x c e => (hf b hb).1.2.2.2.2.1 x c (h1 x c e)⟩
  bs := I.bs
  bsz := Nat.le_trans I.ok.bsz I.sz
  noex := fun b o e hb => by
    rcases (hf b hb).1.2.2.2.1 with z | z
    · exact I.ok.noex b o e z
    · exact absurd (Nat.lt_of_lt_of_le (Heap.lt_size e) (Nat.le_trans I.ok.bsz z)) (Nat.lt_irrefl _)
  exfs := fun b hb hm => by
    rcases List.mem_cons.mp (I.stkSub b hm) with z | z
    · exact (hf b hb).1.2.1 z
    · exact (hf b hb).1.2.2.1 z
  funs := I.stack
  frf := I.stkFree
end
end L3
namespace L3
open PySem PySem.Spec L2
open PyProof.Rows hiding St
abbrev lob (its : List Value) (k : Nat) : Obj := { cls := .type "list", data := .seq its.toArray k }
section
variable {X : Cx} {elt tg iter : Expr} {ifs : List Expr} {scope : Scope} {pos : Pos} {wi : TI} {g : TG} {tc : TT} {te : TE} {cap : List (Option Nat)} {N' : List Str}
structure OwnC (X : Cx) (pins : List (Addr × Obj)) (H : Hp) (C : Addr) : Prop where
  free : H C = none
  loc : C ≠ X.env.locals
  new : X.s₀.heap.objs.size ≤ C
  cell : ∀ x c, X.env.cells.lookup x = some c → c ≠ C
  pin : ∀ p ∈ X.pn ++ pins, p.1 ≠ C
theorem _root_.L2.Inv.letGo {X : Cx} {pins : List (Addr × Obj)} {σ : St} {H : Hp} {s : Shared} {C : Addr} {h' : Heap} (I : Inv X pins σ H s) (o : OwnC X pins H C) (hs : Heap.SameBut C s.heap h') : Inv X pins σ H { s with heap := h' } :=
  I.turned (it := C) (t' := s.toks) (fun b ob hb e => hs.extBut b ob hb e) o.free o.loc (.inr o.new) o.cell o.pin
structure CompOk (X : Cx) (scope : Scope) (cap : List (Option Nat)) (N' : List Str) : Prop where
  kind : scope.kind = .function
  cell : ∀ y ∈ scope.names, y.2 ≠ .cell
  names : ∀ y ∈ scope.names, y.2 = .local → scope.names.lookup y.1 = some .local
  free : ∀ y ∈ scope.names, y.2 = .free → X.env.kindOf y.1 = some .cell
  len : cap.length = N'.length
  cap : ∀ (i j : Nat) (x : Str), cap[i]? = some (some j) → N'[i]? = some x → X.N[j]? = some x ∧ X.env.kindOf x = some .cell ∧ (relabel scope X.env).names.lookup x = some .cell ∧ (x, NameKind.free) ∈ scope.names
theorem block_run {pins : List (Addr × Obj)} {σ : St} {H2 : Hp} {s2 : Shared} {Q : VK} {it : Addr} {fp : List Addr} {tn : Nat → Heap → Prop} {J : It} {cl : List (Str × Addr)} {RR : Value → Addr → Result → Shared → Prop} {E : Value → Shared → Prop}
    (hc : X.calm = true) (ok : CompOk X scope cap N') (h1 : ∀ n c, cl.lookup n = some c → X.env.cells.lookup n = some c) (h2 : ∀ n, (n, NameKind.free) ∈ scope.names → ∃ c, cl.lookup n = some c)
    (hb : ∀ cl C s H fp, PG (cxBlock X scope cl C s H fp N') tg g ∧ PTs (cxBlock X scope cl C s H fp N') ifs tc ∧ PE (cxBlock X scope cl C s H fp N') elt te)
    (I2 : Inv X pins σ H2 s2) (T : Turn X.prog X.w X.K tg J fp it tn) (st2 : tn 0 s2.heap) (f2 : ∀ b ∈ fp, FpOk X pins H2 b)
    (W : Nat → Nat → St → Hp → List V → Prop) (w0 : ∃ m, W 0 m (cap.map fun o => o.bind fun j => (σ[j]?).join) H2 [])
    (turn : ∀ i m σ' H' acc, W i m σ' H' acc → (J.stop i H' ∧ ∀ p, H' p = none → Q (.ref p) (upd H' p (.lst acc))) ∨
      (J.go i H' ∧ acc.length < sizeLine ∧ ∀ x H2, J.yld i H' x H2 → g x σ' H2 fun σ3 H3 => tc σ3 H3 fun b H4 => if b = true then te σ3 H4 fun y H5 => ∃ m', m' < m ∧ W (i + 1) m' σ3 H5 (acc ++ [y]) else ∃ m', m' < m ∧ W (i + 1) m' σ3 H4 acc))
    (fin : ∀ (D C : Addr) (s' : Shared) (H' : Hp), (∃ m, s'.heap.Ns C m) → Inv X pins σ H' s' → Q (.ref D) H' → OwnC X pins H' C → RR (.ref D) C (.ok .next) s') :
    wpAny (model X.prog X.w) X.A (newList []) (fun acc s₃ => wpAny (model X.prog X.w) X.A (newFunctionEnv scope X.env.globals cl [] X.env.qual none .none (some X.env)) (fun cenv s₄ =>
      codeAny (model X.prog X.w) X.A (.compStart (.ListComp elt [⟨tg, iter, ifs, 0⟩] scope pos) 0 (.ref it) acc { cenv with scope := relabel scope X.env }) (RR acc cenv.locals) s₄) E s₃) E s2 := by
  obtain ⟨m0, w0⟩ := w0
  refine wpAny_newObj_type (wpAny_newFunctionEnv ok.cell (by intro y hy; simp at hy) (fun h₁ hns₁ hsb₁ => ?_) ok.kind)
  dsimp only at hns₁ hsb₁ ⊢
  generalize hH2 : s2.heap.push { cls := .type "list", dict := none, data := .seq ([] : List Value).toArray } = P2 at hns₁ hsb₁ ⊢
  have hC : P2.objs.size = s2.heap.objs.size + 1 := by rw [← hH2, Heap.size_push]
  have hDC : s2.heap.objs.size ≠ P2.objs.size := by rw [hC]; exact Nat.ne_of_lt (Nat.lt_succ_self _)
  have hCle : s2.heap.objs.size ≤ P2.objs.size := by rw [hC]; exact Nat.le_succ _
  have old : ∀ b o, s2.heap.get? b = some o → h₁.get? b = some o := fun b o e =>
    hsb₁.extBut b o (by rw [hC]; exact Nat.ne_of_lt (Nat.lt_succ_of_lt (Heap.lt_size e))) (Heap.get?_push_of_some _ (hH2 ▸ Heap.get?_push_of_some _ e))
  have hacc : h₁.get? s2.heap.objs.size = some (lob [] 0) := hsb₁.extBut _ _ hDC (Heap.get?_push_of_some _ (hH2 ▸ Heap.get?_push_size _ rfl))
  have fplt : ∀ b ∈ fp, b < s2.heap.objs.size := fun b hb => let ⟨o, e, _⟩ := T.obj 0 s2.heap st2 b hb; Heap.lt_size e
  have okB : (cxBlock X scope cl P2.objs.size s2 H2 fp N').Ok := block_ok I2 (fun b hb => ⟨f2 b hb, fplt b hb⟩) hCle ok.kind ok.cell h1 h2
  have hDL : s2.heap.objs.size ≠ X.env.locals := Nat.ne_of_gt I2.lt
  have hDfs : s2.heap.objs.size ∉ frs X.stack := fun hm => by
    rcases List.mem_cons.mp (I2.stkSub _ hm) with z | z
    · exact hDL z
    · exact I2.nofs (Nat.le_refl _) z
  have hDcell : ∀ x c, cl.lookup x = some c → c ≠ s2.heap.objs.size := fun x c e z => by
    obtain ⟨v, q⟩ := I2.cell x c (h1 x c e)
    exact absurd (Nat.lt_of_lt_of_le q.lt (by rw [z]; exact Nat.le_refl _)) (Nat.lt_irrefl _)
  have hDfp : s2.heap.objs.size ∉ fp := fun hm => Nat.lt_irrefl _ (fplt _ hm)
  -- what stays true of the iterator's objects
  have stat : ∀ {pl : List (Addr × Obj)} {H' : Hp}, (∀ p ∈ pl, p.1 = s2.heap.objs.size) → (∀ b ∈ fp, H' b = none) → ∀ b ∈ fp, FpOk (cxBlock X scope cl P2.objs.size s2 H2 fp N') pl H' b := fun {pl H'} hp hn b hb =>
    ⟨hn b hb, Nat.ne_of_lt (Nat.lt_of_lt_of_le (fplt b hb) hCle), okB.exfs b hb, .inl hb, fun x c e => (f2 b hb).2.2.2.2.1 x c (h1 x c e), fun p hm z => hDfp (by rw [← hp p hm, z]; exact hb)⟩
  have I4 : Inv (cxBlock X scope cl P2.objs.size s2 H2 fp N') [(s2.heap.objs.size, lob [] 0)] (cap.map fun o => o.bind fun j => (σ[j]?).join) H2 { s2 with heap := h₁, toks := s2.toks + ([] : List (Str × Value)).length } := by
    refine ⟨okB, rfl, I2.bare, Un.kept old, ⟨_, hns₁, fun i x v e1 e2 e3 => ?_⟩, fun x c e => ?_, I2.hok.fresh hCle, fun x c e => I2.freeC x c (h1 x c e), fun p hp => ?_, I2.hok.kept old, ?_⟩
    · rw [List.getElem?_map] at e2
      cases ec : cap[i]? with
      | none => rw [ec] at e2; cases e2
      | some o =>
        rw [ec] at e2
        cases o with
        | none => cases e2
        | some j =>
          have e2' : (σ[j]?).join = some v := by simpa using e2
          have ej : σ[j]? = some (some v) := by
            cases q : σ[j]? with
            | none => rw [q] at e2'; cases e2'
            | some z => rw [q] at e2'; have : z = some v := e2'; rw [this]
          obtain ⟨c1, c2, c3, c4⟩ := ok.cap i j x ec e1
          obtain ⟨m, hn, hl⟩ := I2.loc
          obtain ⟨u, ru, lk⟩ := hl j x v c1 ej (.inr (.inl c2))
          refine ⟨u, ru, .inr ⟨.inl c3, ?_⟩⟩
          rcases lk with ⟨k, _⟩ | ⟨_, c, e, z⟩
          · rw [c2] at k; cases k
          · obtain ⟨c', e'⟩ := h2 x c4
            have : c' = c := by
              have := h1 x c' e'
              rw [e] at this
              exact (Option.some.inj this).symm
            subst this
            obtain ⟨ob, eo, ed⟩ := z
            exact ⟨c', e', ob, old _ _ eo, ed⟩
    · obtain ⟨v, ob, eo, ed⟩ := I2.cell x c (h1 x c e)
      exact ⟨v, ob, old _ _ eo, ed⟩
    · have hp' : p = (s2.heap.objs.size, lob [] 0) := by simpa [cxBlock] using hp
      subst hp'
      exact ⟨hacc, I2.hok.fresh (Nat.le_refl _), hDC, hDfs, fun v z => by cases z⟩
    · show (cap.map _).length = N'.length
      rw [List.length_map]; exact ok.len
  have st4 : tn 0 h₁ := T.keep 0 _ _ st2 fun b _ o e => old b o e
  have loop : ∀ s4 : Shared, s4 = { s2 with heap := h₁, toks := s2.toks + ([] : List (Str × Value)).length } →
      codeAny (model X.prog X.w) X.A (.compLoop (.ListComp elt [⟨tg, iter, ifs, 0⟩] scope pos) 0 (.ref it) (.ref s2.heap.objs.size) (compEnvC scope cl P2.objs.size X.env)) (RR (.ref s2.heap.objs.size) P2.objs.size) s4 := by
    rintro s4 rfl
    obtain ⟨hg, ht, he⟩ := hb cl P2.objs.size s2 H2 fp
    refine comp_loop (fun n s' => ∃ i σ' H' acc its k, Inv (cxBlock X scope cl P2.objs.size s2 H2 fp N') [(s2.heap.objs.size, lob its k)] σ' H' s' ∧ tn i s'.heap ∧ (∀ b ∈ fp, H' b = none) ∧ Vals acc its ∧ acc.length ≤ sizeLine ∧ W i n σ' H' acc) ?_ m0
      ⟨0, _, H2, [], [], 0, I4, st4, fun b hb => (f2 b hb).1, .nil, Nat.zero_le _, w0⟩
    rintro n s5 ⟨i, σ5, H5, acc, its, k, I5, st5, fr5, rv, hz, w5⟩
    have pin1 : ∀ {k : Nat} {its : List Value}, ∀ p ∈ ([(s2.heap.objs.size, lob its k)] : List (Addr × Obj)), p.1 = s2.heap.objs.size := fun p hp => by
      have := List.mem_singleton.mp hp
      rw [this]
    rcases turn i n σ5 H5 acc w5 with ⟨stop, qn⟩ | ⟨go, hlt, step⟩
    · refine thn (T.done (cxBlock X scope cl P2.objs.size s2 H2 fp N') rfl rfl rfl hc i _ s5 σ5 H5 _ I5 (stat pin1 fr5) st5 stop) fun r s6 ⟨hr, I6⟩ => ?_
      subst hr
      obtain ⟨m6, hn6, _⟩ := id I6.loc
      obtain ⟨pe, pn, _, _, _⟩ := I6.pin (s2.heap.objs.size, lob its k) (List.mem_append_right _ List.mem_cons_self)
      have fC : H5 P2.objs.size = none := I6.free
      have neD : ∀ b u, H5 b = some u → b ≠ s2.heap.objs.size := fun b u e z => by rw [z, pn] at e; cases e
      have un : Un (frs X.stack) fp H2 (upd H5 s2.heap.objs.size (.lst acc)) s2.heap s6.heap := by
        have B : Un (frs X.stack) fp H2 H5 s2.heap s6.heap := I6.base
        refine ⟨B.keep, B.slot, fun b o e n hx => ?_, B.there, fun b xs e => ?_, fun b o u e => ?_, fun b ps e => ?_⟩
        · rw [upd_ne (Nat.ne_of_lt (Heap.lt_size e))]; exact B.free b o e n hx
        · have z := B.tups b xs e
          rw [upd_ne (neD b _ z)]; exact z
        · have z := B.frzs b o u e
          rw [upd_ne (neD b _ z)]; exact z
        · obtain ⟨more, z⟩ := B.tbls b ps e
          exact ⟨more, by rw [upd_ne (neD b _ z)]; exact z⟩
      have hokD : HOk X.prog X.w X.K (upd H5 s2.heap.objs.size (.lst acc)) s6.heap := fun b u e => by
        by_cases hbD : b = s2.heap.objs.size
        · subst hbD
          rw [upd_same] at e; cases e
          exact ⟨hz, its, k, rv, pe⟩
        · rw [upd_ne hbD] at e
          exact (I6.hok b u e).stay (fun c v hcc q => q) (fun c q => by rw [upd_ne (neD c _ q)]; exact q) fun c xs q => by rw [upd_ne (neD c _ q)]; exact q
      have I7 : Inv X pins σ (upd H5 s2.heap.objs.size (.lst acc)) s6 := I2.call' (s' := s6) (ch := fp) I6.os un hokD I6.bare fun b hb =>
        ⟨(f2 b hb).2.2.2.1, (f2 b hb).2.1, (f2 b hb).2.2.2.2.1, (f2 b hb).2.2.2.2.2⟩
      refine fin _ _ s6 _ ⟨m6, hn6⟩ I7 (qn _ pn) ⟨by rw [upd_ne (Ne.symm hDC)]; exact fC, Nat.ne_of_gt (Nat.lt_of_lt_of_le I2.lt hCle), Nat.le_trans I2.sz hCle, fun x c e z => ?_, fun p hp z => ?_⟩
      · obtain ⟨v, q⟩ := I2.cell x c e
        exact absurd (Nat.lt_of_lt_of_le q.lt (by rw [z]; exact hCle)) (Nat.lt_irrefl _)
      · exact absurd (Nat.lt_of_lt_of_le (Heap.lt_size (I2.pin p hp).1) (by rw [z]; exact hCle)) (Nat.lt_irrefl _)
    · refine thn (T.item (cxBlock X scope cl P2.objs.size s2 H2 fp N') rfl rfl rfl hc i _ s5 σ5 H5 _ I5 (stat pin1 fr5) st5 go) fun r s6 ⟨u, hr, q6⟩ => ?_
      subst hr
      refine thn q6 fun _ s7 ⟨x, H7, I7, r7, y7, st7, fr7⟩ => ?_
      have I7' := I7.pinned (stat pin1 fr7) (T.obj _ _ st7)
      refine thn (hg _ s7 σ5 H7 x u _ I7' r7 (step x H7 y7)) fun _ s8 ⟨σ8, H8, I8, q8⟩ => ?_
      refine thn (ht _ s8 σ8 H8 _ I8 q8) fun b s9 ⟨H9, I9, q9⟩ => ?_
      have again : ∀ {σa : St} {Ha : Hp} {sa : Shared}, Inv (cxBlock X scope cl P2.objs.size s2 H2 fp N') ([(s2.heap.objs.size, lob its k)] ++ pinsAt fp s7.heap) σa Ha sa → tn (i + 1) sa.heap ∧ ∀ b ∈ fp, Ha b = none := fun {σa Ha sa} Ia =>
        ⟨T.keep _ _ _ st7 fun b hb o e => (Ia.pin (b, o) (List.mem_append_right _ (List.mem_append_right _ (mem_pinsAt hb e)))).1, fun b hb => by
          obtain ⟨o, e, d⟩ := T.obj _ _ st7 b hb
          exact (Ia.pin (b, o) (List.mem_append_right _ (List.mem_append_right _ (mem_pinsAt hb e)))).2.1⟩
      cases b with
      | false =>
        obtain ⟨m', hm, w9⟩ := q9
        obtain ⟨a1, a2⟩ := again I9
        exact ⟨m', hm, i + 1, σ8, H9, acc, its, k, I9.unpinned, a1, a2, rv, hz, w9⟩
      | true =>
        refine thn (he _ s9 σ8 H9 _ I9 q9) fun z s10 ⟨y, H10, I10, ry, m', hm, w10⟩ => ?_
        obtain ⟨pe, pn, pL, pf, pd⟩ := I10.pin (s2.heap.objs.size, lob its k) (List.mem_append_right _ (List.mem_append_left _ List.mem_cons_self))
        have hl := rv.length
        refine call_meets F.slot_list_append ⟨_, pe, rfl⟩ F.entry_list_append (F.args_list_append_2 _ _) (PySem.list_append s2.heap.objs.size its.toArray k z (by rw [List.size_toArray]; omega)) ⟨pe, ?_⟩
        obtain ⟨k', q⟩ : ∃ k', (s10.heap.update s2.heap.objs.size (Obj.mapSeq fun a => a.push z)).get? s2.heap.objs.size = some (lob (its ++ [z]) k') := ⟨_, by
          have q := PySem.IsL.update pe fun a => a.push z
          simpa using q⟩
        obtain ⟨a1, a2⟩ := again I10
        have I11 : Inv (cxBlock X scope cl P2.objs.size s2 H2 fp N') [] σ8 H10 { s10 with heap := s10.heap.update s2.heap.objs.size (Obj.mapSeq fun a => a.push z), toks := s10.toks } :=
          (I10.pins_of (pins' := []) fun p hp => nomatch hp).turned (fun b o hb e => (Heap.get?_update_other s10.heap _ (Ne.symm hb)).trans e) pn hDC (.inr (Nat.le_refl _)) hDcell fun p hp => by
            have : p ∈ ([] : List (Addr × Obj)) := by simpa [cxBlock] using hp
            exact nomatch this
        refine ⟨m', hm, i + 1, σ8, H10, acc ++ [y], its ++ [z], k', I11.pins_of (pins' := [(s2.heap.objs.size, lob (its ++ [z]) k')]) fun p hp => ?_, ?_, a2, rv.append (.cons ry .nil), ?_, w10⟩
        · have hp' := List.mem_singleton.mp hp
          subst hp'
          exact ⟨q, pn, hDC, hDfs, fun v z => by cases z⟩
        · exact T.keep _ _ _ a1 fun b hb o e => (Heap.get?_update_other s10.heap _ (fun z => hDfp (by rw [z]; exact hb))).trans e
        · rw [List.length_append, List.length_singleton]; omega
  exact codeAny_compStart_list (loop _ rfl) (T.self _ 0 _ _ _ st4 (loop _ rfl))
theorem pe_comp (hc : X.calm = true) (hi : PI X tg iter wi) (ok : CompOk X scope cap N')
    (hb : ∀ cl C s H fp, PG (cxBlock X scope cl C s H fp N') tg g ∧ PTs (cxBlock X scope cl C s H fp N') ifs tc ∧ PE (cxBlock X scope cl C s H fp N') elt te)
    (hs : ∀ x, foldedSetIterable iter X.env x = pure x := by intro _; rfl) : PE X (.ListComp elt [⟨tg, iter, ifs, 0⟩] scope pos) (tComp wi g tc te cap) := by
  intro pins s σ H Q I h
  obtain ⟨cl, hcl, h1, h2⟩ := closure_of (scope := scope) (env := X.env) fun x hx hk => I.ok.has x.1 (.inl (ok.free x hx hk))
  rw [eval_ListComp]
  refine wpAny_comprehension_free (use := none) rfl hs hcl ok.kind ok.names (thn (hi pins s σ H _ I h) fun v s1 q1 => thn q1 fun itv s2 q2 => ?_)
  obtain ⟨it, fp, tn, J, H2, e, I2, T, st2, f2, W, w0, turn⟩ := q2
  subst e
  refine block_run (Q := Q) (RR := fun acc C => compPost (model X.prog X.w) X.A X.xe none (EP X pins σ Q) acc C) hc ok h1 h2 hb I2 T st2 f2 W w0 turn ?_
  intro D C s' H' hm I' hq ow
  obtain ⟨m, hn⟩ := hm
  exact ⟨m, hn, fun h' hs' => ⟨.ref D, H', I'.letGo ow hs', rfl, hq⟩⟩
theorem ps_setComp {i : Nat} {y : Str} {py spos : Pos} (hN : X.N.Nodup) (hi' : X.N[i]? = some y) (hy : X.env.scope.names.lookup y = some .local) (hsw : swapsWith (.ListComp elt [⟨tg, iter, ifs, 0⟩] scope pos) (some (.Name y py)) spos.line X.env = pure true)
    (hc : X.calm = true) (hi : PI X tg iter wi) (ok : CompOk X scope cap N')
    (hb : ∀ cl C s H fp, PG (cxBlock X scope cl C s H fp N') tg g ∧ PTs (cxBlock X scope cl C s H fp N') ifs tc ∧ PE (cxBlock X scope cl C s H fp N') elt te)
    (hs : ∀ x, foldedSetIterable iter X.env x = pure x := by intro _; rfl) : PS X (.Assign [.Name y py] (.ListComp elt [⟨tg, iter, ifs, 0⟩] scope pos) spos) (tAsg (tComp wi g tc te cap) (gName i)) := by
  intro pins s σ H D I h
  obtain ⟨cl, hcl, h1, h2⟩ := closure_of (scope := scope) (env := X.env) fun x hx hk => I.ok.has x.1 (.inl (ok.free x hx hk))
  rw [exec_Assign_Name_used _ _ _ _ hsw]
  refine wpAny_bind (wpAny_standAt (wpAny_bind ?_))
  show wpAny _ X.A (do let _ ← comprehension (.ListComp elt [⟨tg, iter, ifs, 0⟩] scope pos) scope X.env _ (newList []) false (eval iter X.env) (some (assign (.Name y py) X.env))) _ _ s
  refine wpAny_bind (wpAny_mono (wpAny_comprehension_free (use := some (assign (.Name y py) X.env)) (Q := fun _ s' => SP X pins D .next s') rfl hs hcl ok.kind ok.names (thn (hi pins s σ H _ I h) fun v s1 q1 => thn q1 fun itv s2 q2 => ?_)) (fun _ s' hq => wpAny_pure (wpAny_pure hq)) fun _ _ e => e)
  obtain ⟨it, fp, tn, J, H2, e, I2, T, st2, f2, W, w0, turn⟩ := q2
  subst e
  refine block_run (Q := fun x H1 => D.nx (σ.set i (some x)) H1) (RR := fun acc C => compPost (model X.prog X.w) X.A X.xe (some (assign (.Name y py) X.env)) (fun _ s' => SP X pins D .next s') acc C) hc ok h1 h2 hb I2 T st2 f2 W w0 turn ?_
  intro E C s' H' hm I' hq ow
  obtain ⟨m, hn⟩ := hm
  show wpAny _ X.A (assign (.Name y py) X.env (.ref E)) _ _ _
  refine wpAny_assign_Name (store_ok2 I' hN hi' (.inl hy) (v := .ref E) rfl (fun s'' I'' ⟨a, hs'', ha⟩ => ?_) (.inr hy))
  have hne : C ≠ a := by
    rcases ha with z | z
    · rw [z]; exact ow.loc
    · exact Ne.symm (ow.cell y a z)
  exact ⟨m, hn.sameBut hs'' hne, fun h' hs' => ⟨_, H', I''.letGo ow hs', hq⟩⟩
end
end L3
namespace L3
open PySem PySem.Spec L2
open PyProof.Rows hiding St
abbrev TI2 := St2 → WH → (List W → (WH → Prop) → WH → Prop) → Prop
structure Yields (K : PySem.W.Frag) (J : It) (ws : List W) (valid : WH → Prop) (H1 : Hp) : Prop where
  go : ∀ i H G w, TX H1 H → Sim K G H → valid G → ws[i]? = some w → J.go i H ∧ ∀ x H', J.yld i H x H' → TX H H' ∧ Sim K G H' ∧ Rep K H' w x
  stop : ∀ H G, TX H1 H → Sim K G H → valid G → J.stop ws.length H
def lowI (K : PySem.W.Frag) (t : TI2) : TI := fun σ H R => ∃ τ G R2, SimS K H τ σ ∧ Sim K G H ∧ t τ G R2 ∧ ∀ J H1 ws valid G1, TX H H1 → Sim K G1 H1 → Yields K J ws valid H1 → R2 ws valid G1 → R J H1
@[irreducible] def PI2 (X : Cx) (tg iter : Expr) (t : TI2) : Prop := PI X tg iter (lowI X.K t)
theorem PI.imp {X : Cx} {tg iter : Expr} {t t' : TI} (h : PI X tg iter t) (le : ∀ σ H R, t' σ H R → t σ H R) : PI X tg iter t' := fun pins s σ H R I q => h pins s σ H R I (le σ H R q)
section
variable {X : Cx} {tg : Expr} {pos : Pos}
def iSeq2 (ta : TE2) : TI2 := fun τ G R => ta τ G fun w G1 => match w with
  | .scr ws => R ws (fun _ => True) G1
  | .tup ws => R ws (fun _ => True) G1
  | .ref a => ∃ ws, G1 a = some (.lst ws) ∧ R ws (fun G => G a = some (.lst ws)) G1
  | _ => False
theorem i_seq {l : Expr} {ta : TE2} (hl : PE2 X l ta) : PI2 X tg l (iSeq2 ta) := by
  simp only [PE2, PI2] at *
  exact (PI.imp (pi_seq hl) fun σ H R ⟨τ, G, R2, hs, hg, ht, c⟩ => ⟨τ, G, _, hs, hg, ht, fun v H1 w G1 t1 s1 r1 h1 => by
    cases w <;> first | exact False.elim h1 | skip
    case scr ws =>
      cases r1 with
      | @scr a vs _ t r =>
        refine ⟨_, rfl, .inl ⟨⟨_, t.sq⟩, c _ H1 ws _ G1 t1 s1 ⟨fun i H' G' w' tx sg _ e => ?_, fun H' G' tx sg _ => ⟨_, (t.mono tx).sq, by rw [← r.length]; exact Nat.le_refl _⟩⟩ h1⟩⟩
        obtain ⟨v, e', rv⟩ := r.get e
        exact ⟨⟨_, v, (t.mono tx).sq, e'⟩, fun x H'' ⟨eq, y⟩ => by subst eq; have := y _ (t.mono tx).sq; rw [e'] at this; cases this; exact ⟨.refl _, sg, rv.mono tx⟩⟩
    case tup ws =>
      cases r1 with
      | @tup a vs _ t r =>
        refine ⟨_, rfl, .inr ⟨⟨_, t.sq⟩, c _ H1 ws _ G1 t1 s1 ⟨fun i H' G' w' tx sg _ e => ?_, fun H' G' tx sg _ => ⟨_, (t.mono tx.tup).sq, by rw [← r.length]; exact Nat.le_refl _⟩⟩ h1⟩⟩
        obtain ⟨v, e', rv⟩ := r.get e
        exact ⟨⟨_, v, (t.mono tx.tup).sq, e'⟩, fun x H'' ⟨eq, y⟩ => by subst eq; have := y _ (t.mono tx.tup).sq; rw [e'] at this; cases this; exact ⟨.refl _, sg, rv.mono tx⟩⟩
    case ref a =>
      cases r1
      obtain ⟨ws, e1, h1⟩ := h1
      obtain ⟨vs0, hv0, _⟩ := s1 _ _ e1
      refine ⟨_, rfl, .inl ⟨⟨_, .of hv0⟩, c _ H1 ws _ G1 t1 s1 ⟨fun i H' G' w' tx sg va e => ?_, fun H' G' tx sg va => ?_⟩ h1⟩⟩
      · obtain ⟨vs, hv, r⟩ := sg _ _ va
        obtain ⟨v, e', rv⟩ := r.get e
        exact ⟨⟨_, v, .of hv, e'⟩, fun x H'' ⟨eq, y⟩ => by subst eq; have := y _ (.of hv); rw [e'] at this; cases this; exact ⟨.refl _, sg, rv⟩⟩
      · obtain ⟨vs, hv, r⟩ := sg _ _ va
        exact ⟨_, .of hv, by rw [← r.length]; exact Nat.le_refl _⟩⟩)
theorem yields_range {K : PySem.W.Frag} {lo : Int} {n : Nat} {H1 : Hp} : Yields K (Itr lo n) (rangeW lo n) (fun _ => True) H1 :=
  ⟨fun i H' G' w' tx sg _ e => by
    obtain ⟨hi, rfl⟩ := rangeW_get e
    exact ⟨hi, fun x H'' ⟨eq, y⟩ => by subst eq y; exact ⟨.refl _, sg, .int _⟩⟩, fun H' G' tx sg _ => by rw [rangeW_len]; exact Nat.le_refl _⟩
def iR1 (t : TA2) : TI2 := fun τ G R => t τ G fun ws G1 => match ws with
  | [.int j] => -(2 ^ 62) ≤ j ∧ j < 2 ^ 62 ∧ R (rangeW 0 j.toNat) (fun _ => True) G1
  | _ => False
theorem i_range1 {a : Expr} {t : TA2} {p : Pos} (hgl : Gl X "range") (hm : X.mg "range" = none) (ha : PA2 X [a] t) (hs : starEach [a] X.env = [(false, eval a X.env)] := by rfl) : PI2 X tg (.Call (.Name "range" p) [a] [] pos) (iR1 t) := by
  simp only [PA2, PI2] at *
  exact (PI.imp (pi_range1 hgl hm ha hs) fun σ H R ⟨τ, G, R2, hs, hg, ht, c⟩ => ⟨τ, G, _, hs, hg, ht, fun vs H1 ws G1 t1 s1 r1 h1 => by
    split at h1
    · cases r1 with | cons r1 r2 => cases r2; cases r1; exact ⟨_, rfl, h1.1, h1.2.1, c _ H1 _ _ G1 t1 s1 yields_range h1.2.2⟩
    · exact False.elim h1⟩)
def uForI (s : TI2) (g : TG2) (tb : TS2) : TS2 := fun D τ G => s τ G fun ws valid G1 => uLoop ws valid g tb D τ G1
theorem s_forI {iter : Expr} {body : List Stmt} {t : TI2} {g : TG2} {tb : TS2} (hp : PassesOwn (model X.prog X.w) X.A X.env X.xe) (hc : X.calm = true) (hi : PI2 X tg iter t) (hg : PG2 X tg g) (hb : PSs2 X body tb)
    (hs : ∀ x, foldedSetIterable iter X.env x = pure x := by intro _; rfl) : PS2 X (.For tg iter body [] pos) (uForI t g tb) := by
  simp only [PS2, PSs2, PG2, PI2] at *
  exact (PS.imp (ps_for hp hc hi hg hb hs) fun D σ H ⟨τ, G, D2, hs, hg, ht, le⟩ => ⟨τ, G, _, hs, hg, ht, fun J H1 ws valid G1 t1 s1 y h1 => loop_low (hs.mono t1) s1 (le.mono t1) y.go y.stop h1⟩)
end
def compGo (valid : WH → Prop) (g : TG2) (tc : TT2) (te : TE2) (Q : List W → WH → Prop) : List W → St2 → WH → List W → Prop
  | [], _, G, acc => valid G ∧ Q acc G
  | w :: ws, τ, G, acc => valid G ∧ acc.length < sizeLine ∧ g w τ G fun τ2 G2 => tc τ2 G2 fun b G3 => if b = true then te τ2 G3 fun y G4 => ∃ G0, (∀ b u, G0 b = some u → G4 b = some u) ∧ compGo valid g tc te Q ws τ2 G0 (acc ++ [y]) else compGo valid g tc te Q ws τ2 G3 acc
def capt (cap : List (Option Nat)) (τ : St2) : St2 := cap.map fun o => o.bind fun j => (τ[j]?).join
def uComp (s : TI2) (g : TG2) (tc : TT2) (te : TE2) (cap : List (Option Nat)) : TE2 := fun τ G Q => s τ G fun ws valid G1 => compGo valid g tc te (fun acc G' => ∀ p, G' p = none → Q (.ref p) (gup G' p (.lst acc))) ws (capt cap τ) G1 []
def uTrue : TT2 := fun _ G Q => Q true G
theorem SimS.capt {K : PySem.W.Frag} {H : Hp} {τ : St2} {σ : St} (s : SimS K H τ σ) (cap : List (Option Nat)) : SimS K H (capt cap τ) (cap.map fun o => o.bind fun j => (σ[j]?).join) := by
  refine ⟨by simp [L3.capt], fun i w e => ?_⟩
  unfold L3.capt at e
  rw [List.getElem?_map] at e ⊢
  cases q : cap[i]? with
  | none => rw [q] at e; cases e
  | some o =>
    rw [q] at e
    cases o with
    | none => cases e
    | some j =>
      have e' : (τ[j]?).join = some w := by simpa using e
      have ej : τ[j]? = some (some w) := by
        cases z : τ[j]? with
        | none => rw [z] at e'; cases e'
        | some y => rw [z] at e'; have : y = some w := e'; rw [this]
      obtain ⟨v, hv, rv⟩ := s.at' j w ej
      exact ⟨v, by simp [hv], rv⟩
theorem low_comp {K : PySem.W.Frag} {s : TI2} {g : TG2} {tc : TT2} {te : TE2} {cap : List (Option Nat)} (σ : St) (H : Hp) (Q : VK) (h : low K (uComp s g tc te cap) σ H Q) : tComp (lowI K s) (lowG K g) (lowT K tc) (low K te) cap σ H Q := by
  obtain ⟨τ, G, Q2, hs, hg, ht, hc⟩ := h
  refine ⟨τ, G, _, hs, hg, ht, fun J H1 ws valid G1 t1 s1 y h1 => ?_⟩
  refine ⟨fun i m σ' H' acc => m = ws.length - i ∧ i ≤ ws.length ∧ ∃ τ' G' accw, SimS K H' τ' σ' ∧ Sim K G' H' ∧ Reps K H' accw acc ∧ TX H1 H' ∧ compGo valid g tc te (fun acc G' => ∀ p, G' p = none → Q2 (.ref p) (gup G' p (.lst acc))) (ws.drop i) τ' G' accw,
    ⟨ws.length, rfl, Nat.zero_le _, capt cap τ, G1, [], (hs.mono t1).capt cap, s1, .nil, .refl _, h1⟩, ?_⟩
  rintro i m σ' H' acc ⟨rfl, hi, τ', G', accw, s2, g2, ra, tx, q⟩
  by_cases hlt : i < ws.length
  · have ed : ws.drop i = ws[i] :: ws.drop (i + 1) := List.drop_eq_getElem_cons hlt
    rw [ed] at q
    obtain ⟨va, hz, q⟩ := q
    obtain ⟨go, yl⟩ := y.go i H' G' ws[i] tx g2 va (by simp [hlt])
    refine .inr ⟨go, by rw [← ra.length]; exact hz, fun x H2 hy => ?_⟩
    obtain ⟨t3, g3, r3⟩ := yl x H2 hy
    refine ⟨ws[i], τ', G', _, r3, s2.mono t3, g3, q, fun σ3 H3 τ3 G3 t4 s4 g4 q4 => ?_⟩
    refine ⟨τ3, G3, _, s4, g4, q4, fun b H4 G4 t5 g5 q5 => ?_⟩
    have t35 := (t3.trans t4).trans t5
    cases b with
    | true =>
      refine ⟨τ3, G4, _, s4.mono t5, g5, q5, fun yv H5 yw G5 t6 g6 r6 ⟨G6, le6, q6⟩ => ?_⟩
      have t36 := t35.trans t6
      exact ⟨ws.length - (i + 1), by omega, rfl, hlt, τ3, G6, accw ++ [yw], s4.mono (t5.trans t6), g6.less le6, (ra.mono t36).append (.cons r6 .nil), tx.trans t36, q6⟩
    | false => exact ⟨ws.length - (i + 1), by omega, rfl, hlt, τ3, G4, accw, s4.mono t5, g5, ra.mono t35, tx.trans t35, q5⟩
  · have e : i = ws.length := by omega
    subst e
    rw [List.drop_length] at q
    obtain ⟨va, q⟩ := q
    refine .inl ⟨y.stop H' G' tx g2 va, fun p hp => ?_⟩
    exact hc _ _ _ _ ((t1.trans tx).trans (.fresh hp)) (g2.laid hp (.l upd_same (ra.mono (.fresh hp)))) (.ref p) (q p (g2.no hp))
theorem pts2_nil {X : Cx} : PTs X [] (lowT X.K uTrue) := fun pins s σ H Q I ⟨τ, G, Q2, hs, hg, ht, hc⟩ => pts_nil pins s σ H Q I (hc true H G (.refl H) hg ht)
theorem pts2_one {X : Cx} {c : Expr} {t : TT2} (h : PT2 X c t) : PTs X [c] (lowT X.K t) := by
  simp only [PT2] at *
  exact (pts_one h)
section
variable {X : Cx} {elt tg iter : Expr} {ifs : List Expr} {scope : Scope} {pos : Pos} {s : TI2} {g : TG2} {tc : TT2} {te : TE2} {cap : List (Option Nat)} {N' : List Str}
theorem e_comp (hc : X.calm = true) (hi : PI2 X tg iter s) (ok : CompOk X scope cap N')
    (hb : ∀ cl C s H fp, PG2 (cxBlock X scope cl C s H fp N') tg g ∧ PTs (cxBlock X scope cl C s H fp N') ifs (lowT X.K tc) ∧ PE2 (cxBlock X scope cl C s H fp N') elt te)
    (hs : ∀ x, foldedSetIterable iter X.env x = pure x := by intro _; rfl) : PE2 X (.ListComp elt [⟨tg, iter, ifs, 0⟩] scope pos) (uComp s g tc te cap) := by
  simp only [PE2, PG2, PI2] at *
  exact (PE.imp (pe_comp (g := lowG X.K g) (tc := lowT X.K tc) (te := low X.K te) hc hi ok hb hs) low_comp)
theorem s_setComp {i : Nat} {y : Str} {py spos : Pos} (hN : X.N.Nodup) (hi' : X.N[i]? = some y) (hy : X.env.scope.names.lookup y = some .local) (hc : X.calm = true) (hi : PI2 X tg iter s) (ok : CompOk X scope cap N')
    (hb : ∀ cl C s H fp, PG2 (cxBlock X scope cl C s H fp N') tg g ∧ PTs (cxBlock X scope cl C s H fp N') ifs (lowT X.K tc) ∧ PE2 (cxBlock X scope cl C s H fp N') elt te)
    (hsw : swapsWith (.ListComp elt [⟨tg, iter, ifs, 0⟩] scope pos) (some (.Name y py)) spos.line X.env = pure true := by rfl)
    (hs : ∀ x, foldedSetIterable iter X.env x = pure x := by intro _; rfl) : PS2 X (.Assign [.Name y py] (.ListComp elt [⟨tg, iter, ifs, 0⟩] scope pos) spos) (uAsg (uComp s g tc te cap) (uName i)) := by
  simp only [PE2, PS2, PG2, PI2] at *
  exact (PS.imp (ps_setComp (g := lowG X.K g) (tc := lowT X.K tc) (te := low X.K te) hN hi' hy hsw hc hi ok hb hs) fun D σ H ⟨τ, G, D2, hs, hg, ht, le⟩ => low_comp σ H _ ⟨τ, G, _, hs, hg, ht, fun v H1 w G1 t1 s1 r1 h1 => le.nx _ H1 _ G1 t1 ((hs.mono t1).set r1 i) s1 h1⟩)
end
theorem compGo_pure {valid : WH → Prop} {g : TG2} {tc : TT2} {te : TE2} {Q : List W → WH → Prop} {f : W → W} {p : W → Bool} {T : St2 → Prop} {G : WH} (va : valid G) :
    ∀ (ws : List W) (τ : St2) (acc : List W), T τ → (∀ w ∈ ws, ∀ τ, T τ → ∀ (C1 : W → St2 → WH → Prop) (C2 : St2 → WH → Prop), (p w = true → ∀ τ', T τ' → C1 (f w) τ' G) → (p w = false → ∀ τ', T τ' → C2 τ' G) →
        g w τ G fun τ2 G2 => tc τ2 G2 fun b G3 => if b = true then te τ2 G3 fun y G4 => C1 y τ2 G4 else C2 τ2 G3) →
      acc.length + ws.length ≤ sizeLine → Q (acc ++ (ws.filter p).map f) G → compGo valid g tc te Q ws τ G acc
  | [], τ, acc, _, _, _, q => ⟨va, by simpa using q⟩
  | w :: ws, τ, acc, hT, st, hl, q => by
    refine ⟨va, by simp at hl; omega, ?_⟩
    refine st w List.mem_cons_self τ hT (fun y τ2 G4 => ∃ G0, (∀ b u, G0 b = some u → G4 b = some u) ∧ compGo valid g tc te Q ws τ2 G0 (acc ++ [y])) (fun τ2 G3 => compGo valid g tc te Q ws τ2 G3 acc) (fun hp τ' hT' => ?_) fun hp τ' hT' => ?_
    · refine ⟨G, fun _ _ e => e, compGo_pure va ws τ' _ hT' (fun w' hw => st w' (List.mem_cons_of_mem _ hw)) (by simp at hl ⊢; omega) ?_⟩
      rw [List.filter_cons, if_pos hp] at q
      simpa using q
    · refine compGo_pure va ws τ' _ hT' (fun w' hw => st w' (List.mem_cons_of_mem _ hw)) (by simp at hl; omega) ?_
      rw [List.filter_cons, if_neg (by rw [hp]; exact Bool.false_ne_true)] at q
      exact q
theorem compGo_inv {valid : WH → Prop} {g : TG2} {tc : TT2} {te : TE2} {Q : List W → WH → Prop} (P : Nat → List W → St2 → WH → Prop) :
    ∀ (ws : List W) (k : Nat) (τ : St2) (G : WH) (acc : List W), P k acc τ G → (∀ i acc τ G, k ≤ i → i ≤ k + ws.length → P i acc τ G → valid G) → (∀ i acc τ G, k ≤ i → i < k + ws.length → P i acc τ G → acc.length < sizeLine) →
      (∀ i w acc τ G, ws[i]? = some w → P (k + i) acc τ G → ∀ (C1 : W → St2 → WH → Prop) (C2 : St2 → WH → Prop), (∀ y τ' G' G0, (∀ b u, G0 b = some u → G' b = some u) → P (k + i + 1) (acc ++ [y]) τ' G0 → C1 y τ' G') → (∀ τ' G', P (k + i + 1) acc τ' G' → C2 τ' G') →
        g w τ G fun τ2 G2 => tc τ2 G2 fun b G3 => if b = true then te τ2 G3 fun y G4 => C1 y τ2 G4 else C2 τ2 G3) →
      (∀ acc τ G, P (k + ws.length) acc τ G → Q acc G) → compGo valid g tc te Q ws τ G acc
  | [], k, τ, G, acc, p, va, _, _, en => ⟨va k acc τ G (Nat.le_refl _) (Nat.le_add_right _ _) p, en acc τ G p⟩
  | w :: ws, k, τ, G, acc, p, va, sz, st, en => by
    refine ⟨va k acc τ G (Nat.le_refl _) (Nat.le_add_right _ _) p, sz k acc τ G (Nat.le_refl _) (by simp) p, ?_⟩
    have hva : ∀ i acc τ G, k + 1 ≤ i → i ≤ k + 1 + ws.length → P i acc τ G → valid G := fun i acc τ G h1 h2 => va i acc τ G (by omega) (by simp; omega)
    have hsz : ∀ i acc τ G, k + 1 ≤ i → i < k + 1 + ws.length → P i acc τ G → acc.length < sizeLine := fun i acc τ G h1 h2 => sz i acc τ G (by omega) (by simp; omega)
    have hst : ∀ i w acc τ G, ws[i]? = some w → P (k + 1 + i) acc τ G → ∀ (C1 : W → St2 → WH → Prop) (C2 : St2 → WH → Prop), (∀ y τ' G' G0, (∀ b u, G0 b = some u → G' b = some u) → P (k + 1 + i + 1) (acc ++ [y]) τ' G0 → C1 y τ' G') → (∀ τ' G', P (k + 1 + i + 1) acc τ' G' → C2 τ' G') →
        g w τ G fun τ2 G2 => tc τ2 G2 fun b G3 => if b = true then te τ2 G3 fun y G4 => C1 y τ2 G4 else C2 τ2 G3 := fun i w acc τ G h p C1 C2 h1 h2 => by
      refine st (i + 1) w acc τ G (by simpa using h) (by rw [show k + (i + 1) = k + 1 + i by omega]; exact p) C1 C2 (fun y τ' G' G0 le q => h1 y τ' G' G0 le ?_) fun τ' G' q => h2 τ' G' ?_
      · rw [show k + 1 + i + 1 = k + (i + 1) + 1 by omega]; exact q
      · rw [show k + 1 + i + 1 = k + (i + 1) + 1 by omega]; exact q
    have hen : ∀ acc τ G, P (k + 1 + ws.length) acc τ G → Q acc G := fun acc τ G q => en acc τ G (by rw [show k + (w :: ws).length = k + 1 + ws.length by simp; omega]; exact q)
    refine st 0 w acc τ G rfl p (fun y τ2 G4 => ∃ G0, (∀ b u, G0 b = some u → G4 b = some u) ∧ compGo valid g tc te Q ws τ2 G0 (acc ++ [y])) (fun τ2 G3 => compGo valid g tc te Q ws τ2 G3 acc) (fun y τ' G' G0 le q => ⟨G0, le, ?_⟩) fun τ' G' q => ?_
    · exact compGo_inv P ws (k + 1) τ' G0 _ q hva hsz hst hen
    · exact compGo_inv P ws (k + 1) τ' G' _ q hva hsz hst hen
end L3
namespace L3
open PySem PySem.Spec L2
open PyProof.Rows hiding St
theorem Reps.un1 {K : PySem.W.Frag} {H : Hp} {w : W} {vs : List V} (h : Reps K H [w] vs) : ∃ v, vs = [v] ∧ Rep K H w v := by
  cases h with
  | cons a b => cases b; exact ⟨_, rfl, a⟩
abbrev C2 := List W → WH → VK2 → Prop
def lowC (K : PySem.W.Frag) (r : C2) : List V → Hp → VK → Prop := fun xs H Q => ∃ ws G Q2, Sim K G H ∧ Reps K H ws xs ∧ r ws G Q2 ∧ Cont K H Q2 Q
def uBlt (r : C2) (t : TA2) : TE2 := fun τ G Q => t τ G fun ws G1 => r ws G1 Q
theorem low_blt {K : PySem.W.Frag} {r : C2} {t : TA2} (σ : St) (H : Hp) (Q : VK) (h : low K (uBlt r t) σ H Q) : tCB (lowC K r) (lowA K t) σ H Q := by
  obtain ⟨τ, G, Q2, hs, hg, ht, hc⟩ := h
  exact ⟨τ, G, _, hs, hg, ht, fun vs H1 ws G1 t1 s1 r1 h1 => ⟨ws, G1, Q2, s1, r1, h1, hc.mono t1⟩⟩
theorem CallR.imp {X : Cx} {f : Value} {r r' : List V → Hp → VK → Prop} (h : CallR X f r) (le : ∀ xs H Q, r' xs H Q → r xs H Q) : CallR X f r' := fun pins s σ H xs us Q I rv q => h pins s σ H xs us Q I rv (le xs H Q q)
section
variable {X : Cx} {x : Str} {p pos : Pos} {e : Expr} {es : List Expr} {t : TA2} {id T : String} {r : C2}
theorem e_blt (hc : CallR X (.builtin id) (lowC X.K r)) (hv : bootBuiltins x = some (.builtin id)) (hg : Gl X x) (hm : X.mg x = none) (ha : PA2 X (e :: es) t) (hn : x ≠ "__name__" := by decide) (hdb : (x == ("__debug__" : Str)) = false := by decide)
    (he : starEach (e :: es) X.env = (false, eval e X.env) :: starEach es X.env := by rfl) (hpl : (backTo pos (starEach es X.env)).any (·.1) = false := by rfl) : PE2 X (.Call (.Name x p) (e :: es) [] pos) (uBlt r t) := by
  simp only [PE2, PA2] at *
  exact (PE.imp (pe_callB hc hg hm hv ha hn hdb he hpl) low_blt)
theorem e_bltT (hc : CallR X (.type T) (lowC X.K r)) (hv : bootBuiltins x = some (.type T)) (hg : Gl X x) (hm : X.mg x = none) (ha : PA2 X (e :: es) t) (hn : x ≠ "__name__" := by decide) (hdb : (x == ("__debug__" : Str)) = false := by decide)
    (he : starEach (e :: es) X.env = (false, eval e X.env) :: starEach es X.env := by rfl) (hpl : (backTo pos (starEach es X.env)).any (·.1) = false := by rfl) : PE2 X (.Call (.Name x p) (e :: es) [] pos) (uBlt r t) := by
  simp only [PE2, PA2] at *
  exact (PE.imp (pe_callTy hc hg hm hv ha hn hdb he hpl) low_blt)
end
def lenW (G : WH) : W → Option Nat
  | .tup ws => some ws.length
  | .scr ws => some ws.length
  | .str x => if x.length ≤ sizeLine then some x.length else none
  | .ref a => match G a with
    | some (.lst ws) => some ws.length
    | some (.dct false kvs) => some kvs.length
    | _ => none
  | _ => none
def b_len : C2 := fun ws G Q => match ws with
  | [w] => ∃ n : Nat, lenW G w = some n ∧ Q (.int n) G
  | _ => False
section
variable {X : Cx}
theorem c_len : CallR X (.builtin "len") (lowC X.K b_len) :=
  CallR.imp (call_len_seq.or (call_lenD.or call_len_str)) fun xs H Q ⟨ws, G, Q2, S, r, q, c⟩ => by
    unfold b_len at q
    split at q
    · rename_i w
      obtain ⟨n, e, q⟩ := q
      obtain ⟨v0, e0, r0⟩ := r.un1
      subst e0
      clear r
      revert r0
      intro r
      have fin : Q (.int n) H := c _ H _ G (.refl H) S (.int _) q
      unfold lenW at e
      cases w <;> first | (cases e; done) | skip
      case tup ws => cases r with | tup t r => cases e; refine .inl ⟨_, _, rfl, .inr t.sq, ?_⟩; rw [← r.length]; exact fin
      case scr ws => cases r with | scr t r => cases e; refine .inl ⟨_, _, rfl, .inl t.sq, ?_⟩; rw [← r.length]; exact fin
      case str x =>
        cases r
        dsimp only at e
        split at e
        · cases e; exact .inr (.inr ⟨_, rfl, by assumption, fin⟩)
        · cases e
      case ref a =>
        cases r
        dsimp only at e
        cases g : G a with
        | none => rw [g] at e; cases e
        | some o =>
          rw [g] at e
          cases o with
          | lst ws =>
            cases e
            obtain ⟨vs, hv, rv⟩ := S _ _ g
            refine .inl ⟨_, _, rfl, .inl (.of hv), ?_⟩
            rw [← rv.length]; exact fin
          | dct t kvs =>
            cases t with
            | false =>
              cases e
              obtain ⟨vs, hv, rv⟩ := S _ _ g
              refine .inr (.inl ⟨_, _, rfl, hv, ?_⟩)
              rw [← Paired.len rv]; exact fin
            | true => cases e
          | ins C fs => cases e
    · exact False.elim q
theorem e_b_len {p pos : Pos} {e : Expr} {t : TA2} (hg : Gl X "len") (hm : X.mg "len" = none) (ha : PA2 X [e] t) (he : starEach [e] X.env = (false, eval e X.env) :: starEach [] X.env := by rfl) :
    PE2 X (.Call (.Name "len" p) [e] [] pos) (uBlt b_len t) := e_blt c_len PySem.boot_len hg hm ha (by decide) (by decide) he rfl
def itemsW (G : WH) : W → Option (List W)
  | .tup ws => some ws
  | .scr ws => some ws
  | .ref a => match G a with
    | some (.lst ws) => some ws
    | _ => none
  | _ => none
theorem items_sq {K : PySem.W.Frag} {G : WH} {H : Hp} {w : W} {x : V} {ws : List W} (S : Sim K G H) (r : Rep K H w x) (e : itemsW G w = some ws) : ∃ p ys, x = .ref p ∧ (SqL K H p ys ∨ SqT K H p ys) ∧ Reps K H ws ys := by
  unfold itemsW at e
  cases w <;> first | (cases e; done) | skip
  case tup zs => cases r with | tup t r => cases e; exact ⟨_, _, rfl, .inr t.sq, r⟩
  case scr zs => cases r with | scr t r => cases e; exact ⟨_, _, rfl, .inl t.sq, r⟩
  case ref a =>
    cases r
    dsimp only at e
    cases g : G a with
    | none => rw [g] at e; cases e
    | some o =>
      rw [g] at e
      cases o with
      | lst zs => cases e; obtain ⟨vs, hv, rv⟩ := S _ _ g; exact ⟨_, _, rfl, .inl (.of hv), rv⟩
      | dct t kvs => cases e
      | ins C fs => cases e
def b_list : C2 := fun ws G Q => match ws with
  | [w] => ∃ zs, itemsW G w = some zs ∧ ∀ p, G p = none → Q (.ref p) (gup G p (.lst zs))
  | _ => False
theorem c_list : CallR X (.type "list") (lowC X.K b_list) :=
  CallR.imp call_list_of fun xs H Q ⟨ws, G, Q2, S, r, q, c⟩ => by
    unfold b_list at q
    split at q
    · obtain ⟨zs, e, q⟩ := q
      obtain ⟨v0, e0, r0⟩ := r.un1
      subst e0
      clear r
      revert r0
      intro r
      obtain ⟨p, ys, rfl, hs, rv⟩ := items_sq S r e
      exact ⟨p, ys, rfl, hs, fun l hl => c _ _ _ _ (.fresh hl) (S.laid hl (.l upd_same (rv.mono (.fresh hl)))) (.ref l) (q l (S.no hl))⟩
    · exact False.elim q
theorem e_b_list {p pos : Pos} {e : Expr} {t : TA2} (hg : Gl X "list") (hm : X.mg "list" = none) (ha : PA2 X [e] t) (he : starEach [e] X.env = (false, eval e X.env) :: starEach [] X.env := by rfl) :
    PE2 X (.Call (.Name "list" p) [e] [] pos) (uBlt b_list t) := e_bltT c_list (by rfl) hg hm ha (by decide) (by decide) he rfl
def b_tuple : C2 := fun ws G Q => match ws with
  | [w] => ∃ zs, itemsW G w = some zs ∧ Q (.tup zs) G
  | _ => False
theorem c_tuple : CallR X (.type "tuple") (lowC X.K b_tuple) :=
  CallR.imp call_tuple_of fun xs H Q ⟨ws, G, Q2, S, r, q, c⟩ => by
    unfold b_tuple at q
    split at q
    · rename_i w
      obtain ⟨zs, e, q⟩ := q
      obtain ⟨v0, e0, r0⟩ := r.un1
      subst e0
      clear r
      revert r0
      intro r
      by_cases ht : ∃ us, w = .tup us
      · obtain ⟨us, rfl⟩ := ht
        cases e
        cases r with
        | tup t r => exact ⟨_, _, rfl, .inr ⟨t.sq, c _ H _ G (.refl H) S (.tup t r) q⟩⟩
      · have hl : ∃ p ys, v0 = V.ref p ∧ SqL X.K H p ys ∧ Reps X.K H zs ys := by
          unfold itemsW at e
          cases w <;> first | (cases e; done) | skip
          case tup us => exact absurd ⟨us, rfl⟩ ht
          case scr us => cases r with | scr t r => cases e; exact ⟨_, _, rfl, t.sq, r⟩
          case ref a =>
            cases r
            dsimp only at e
            cases g : G a with
            | none => rw [g] at e; cases e
            | some o =>
              rw [g] at e
              cases o with
              | lst zs => cases e; obtain ⟨vs, hv, rv⟩ := S _ _ g; exact ⟨_, _, rfl, .of hv, rv⟩
              | dct t kvs => cases e
              | ins C fs => cases e
        obtain ⟨p, ys, rfl, hs, rv⟩ := hl
        exact ⟨p, ys, rfl, .inl ⟨hs, fun l hl => c _ _ _ _ (.fresh hl) (S.fresh hl) (.tup (.inl upd_same) (rv.mono (.fresh hl))) q⟩⟩
    · exact False.elim q
theorem e_b_tuple {p pos : Pos} {e : Expr} {t : TA2} (hg : Gl X "tuple") (hm : X.mg "tuple" = none) (ha : PA2 X [e] t) (he : starEach [e] X.env = (false, eval e X.env) :: starEach [] X.env := by rfl) :
    PE2 X (.Call (.Name "tuple" p) [e] [] pos) (uBlt b_tuple t) := e_bltT c_tuple (by rfl) hg hm ha (by decide) (by decide) he rfl
def tyN (G : WH) : W → Option String
  | .non => some "NoneType"
  | .bl _ => some "bool"
  | .int _ => some "int"
  | .str _ => some "str"
  | .tup _ => some "tuple"
  | .scr _ => some "list"
  | .ref a => match G a with
    | some (.lst _) => some "list"
    | some (.dct _ _) => some "dict"
    | _ => none
  | _ => none
def isTab (t tn : String) : Option Bool :=
  if t ∈ ["NoneType", "bool", "int", "str", "tuple", "list", "dict"] ∧ tn ∈ ["bool", "int", "str", "tuple", "list", "dict"] then some (t == tn || (t == "bool" && tn == "int")) else none
theorem isTab_kit {K : PySem.W.Frag} {t tn : String} {b : Bool} (h : isTab t tn = some b) : PySem.W.kitOne K (.type t) (.type tn) = some b := by
  unfold isTab at h
  split at h
  · rename_i hm
    obtain ⟨h1, h2⟩ := hm
    simp only [List.mem_cons, List.not_mem_nil, or_false] at h1 h2
    rcases h1 with rfl | rfl | rfl | rfl | rfl | rfl | rfl <;> rcases h2 with rfl | rfl | rfl | rfl | rfl | rfl <;> (cases h; rfl)
  · cases h
def b_isi (tn : String) : C2 := fun ws G Q => match ws with
  | [w, .ty _] => ∃ t b, tyN G w = some t ∧ isTab t tn = some b ∧ Q (.bl b) G
  | _ => False
theorem c_isi (tn : String) : CallR X (.builtin "isinstance") (fun xs H Q => ∃ x, xs = [x, .ty tn] ∧ lowC X.K (b_isi tn) xs H Q) := by
  rintro pins s σ H xs us Q I rv ⟨x, rfl, ws, G, Q2, S, r, q, c⟩
  obtain ⟨u1, u2, rfl, r1, r2⟩ := rv.two
  cases r2
  unfold b_isi at q
  split at q
  · rename_i w n
    obtain ⟨t, b, e, hk, q⟩ := q
    cases r with | cons r rr =>
    have hk' : PySem.W.kitOne X.K (.type t) (.type tn) = some b := isTab_kit hk
    have fin : ∀ tk, EP X pins σ Q (.bool b) { s with toks := tk } := fun tk => ⟨.bl b, H, I.tok tk, rfl, c _ H _ G (.refl H) S (.bl _) q⟩
    cases w <;> first | (cases e; done) | skip
    case non => cases r; cases e; exact isinst_ok I r1 .non hk' fin
    case bl k => cases r; cases e; exact isinst_ok I r1 (.bl k) hk' fin
    case int k => cases r; cases e; exact isinst_ok I r1 (.int k) hk' fin
    case str k => cases r; cases e; exact isinst_ok I r1 (.str k) hk' fin
    case tup zs =>
      cases e
      cases r with
      | tup t r =>
        cases r1
        obtain ⟨its, vv, ⟨o, h1, h2, _⟩, _⟩ := I.tuple t.sq
        exact PySem.W.kia_one PySem.W.kitx_tuple I.kIn ⟨o, h1, h2⟩ hk' (fun z => nomatch z) fin
    case scr zs =>
      cases e
      cases r with
      | scr t r =>
        cases r1
        obtain ⟨its, vv, ⟨o, n, h1, h2, _⟩, _⟩ := I.list t.sq
        exact PySem.W.kia_one PySem.W.kitx_list I.kIn ⟨o, h1, h2⟩ hk' (fun z => nomatch z) fin
    case ref a =>
      cases r
      unfold tyN at e
      dsimp only at e
      cases g : G a with
      | none => rw [g] at e; cases e
      | some o =>
        rw [g] at e
        cases o with
        | lst zs => cases e; obtain ⟨vs, hv, rv⟩ := S _ _ g; exact isinst_ok I r1 (.lst hv) hk' fin
        | dct t kvs =>
          cases e
          cases t with
          | false => obtain ⟨vs, hv, rv⟩ := S _ _ g; exact isinst_ok I r1 (.dK hv) hk' fin
          | true => obtain ⟨vs, hv, rv⟩ := S _ _ g; exact isinst_ok I r1 (.dT hv) hk' fin
        | ins C fs => cases e
  · exact False.elim q
def uIsI (tn : String) (te : TE2) : TE2 := fun τ G Q => te τ G fun w G1 => ∃ t b, tyN G1 w = some t ∧ isTab t tn = some b ∧ Q (.bl b) G1
theorem e_isi {c : Str} {tn : String} {p p2 pos : Pos} {e : Expr} {te : TE2} (hb : bootBuiltins c = some (.type tn)) (hg : Gl X "isinstance") (hm : X.mg "isinstance" = none) (hgc : Gl X c) (hmc : X.mg c = none) (h : PE2 X e te)
    (hn : c ≠ "__name__" := by decide) (hd : (c == ("__debug__" : Str)) = false := by decide) (hs1 : starEach [e, .Name c p2] X.env = (false, eval e X.env) :: starEach [.Name c p2] X.env := by rfl)
    (hs2 : starEach [.Name c p2] X.env = (false, eval (.Name c p2) X.env) :: starEach [] X.env := by rfl) (hpl : (backTo pos (starEach [.Name c p2] X.env)).any (·.1) = false := by rfl) :
    PE2 X (.Call (.Name "isinstance" p) [e, .Name c p2] [] pos) (uIsI tn te) := by
  simp only [PE2] at *
  have hc : PE X (.Name c p2) (tC (.ty tn)) := pe_bltn hgc hmc hb rfl hn hd
  refine PE.imp (pe_callB (c_isi tn) hg hm (by rfl) (pa_cons h (pa_cons hc pa_nil hs2) hs1) (by decide) (by decide) hs1 hpl) fun σ H Q ⟨τ, G, Q2, hs, hg, ht, c⟩ => ?_
  refine ⟨τ, G, _, hs, hg, ht, fun v H1 w G1 t1 s1 r1 h1 => ⟨v, rfl, [w, .ty tn], G1, Q2, s1, .cons r1 (.cons (.ty tn) .nil), h1, c.mono t1⟩⟩
end
end L3
namespace L3
open PySem PySem.Spec L2
open PyProof.Rows hiding St
section
variable {X : Cx}
end
structure CDict (K : PySem.W.Frag) (w : World) (a : Addr) (tbl : List (Str × W)) : Prop where
  ex : ∃ (es : List (Str × Tok × Value)) (ep : Nat), K.lookup a = some { cls := .type "dict", data := .dict (es.map fun e => ({ hash := PyData.keyHash w.params e.1, key := .str e.1 e.2.1, val := e.2.2 } : DictEntry)).toArray ep } ∧
    Paired (fun (p : Str × W) (q : Str × Tok × Value) => p.1 = q.1 ∧ ∃ v, RelV v q.2.2 ∧ ∀ H, Rep K H p.2 v) tbl es
section
variable {X : Cx}
end
end L3
namespace L3
open PySem PySem.Spec L2
open PyProof.Rows hiding St
def relabelS (scope osc : Scope) : List (Str × NameKind) := scope.names.map fun (n, k) => if (k == .free && osc.kind == .function && osc.names.lookup n == some .cell) then (n, .cell) else (n, k)
def compOk (osc : Scope) (N : List Str) (scope : Scope) (cap : List (Option Nat)) (N' : List Str) : Bool :=
  decide (scope.kind = .function) && (scope.names.all fun y => decide (y.2 ≠ .cell)) && (scope.names.all fun y => !decide (y.2 = .local) || decide (scope.names.lookup y.1 = some .local)) &&
  (scope.names.all fun y => !decide (y.2 = .free) || decide (osc.names.lookup y.1 = some .cell)) && decide (cap.length = N'.length) &&
  ((List.range cap.length).all fun i => match cap[i]?, N'[i]? with
    | some (some j), some x => decide (N[j]? = some x) && decide (osc.names.lookup x = some .cell) && decide ((relabelS scope osc).lookup x = some .cell) && decide ((x, NameKind.free) ∈ scope.names)
    | _, _ => true)
theorem compOk_of {X : Cx} {scope : Scope} {cap : List (Option Nat)} {N' N : List Str} {osc : Scope} (h : compOk osc N scope cap N' = true) (hs : X.env.scope = osc) (hN : X.N = N) : CompOk X scope cap N' := by
  subst hs hN
  unfold compOk at h
  simp only [Bool.and_eq_true, decide_eq_true_eq, List.all_eq_true, Bool.or_eq_true, Bool.not_eq_true', decide_eq_false_iff_not] at h
  obtain ⟨⟨⟨⟨⟨h1, h2⟩, h3⟩, h4⟩, h5⟩, h6⟩ := h
  refine ⟨h1, h2, fun y hy hk => (h3 y hy).resolve_left fun z => z hk, fun y hy hk => (h4 y hy).resolve_left fun z => z hk, h5, fun i j x hc hn => ?_⟩
  have hi : i < cap.length := (List.getElem?_eq_some_iff.mp hc).1
  have q := h6 i (List.mem_range.mpr hi)
  rw [hc, hn] at q
  simp only [Bool.and_eq_true, decide_eq_true_eq] at q
  exact ⟨q.1.1.1, q.1.1.2, q.1.2, q.2⟩
section
variable {G : WH} {a : Addr} {ws : List W} {t : Bool} {kvs : List (W × W)} {Q : VK2} {w z : W}
theorem ix2_l {i : Int} (h : G a = some (.lst ws)) (e : atI ws i = some w) (q : Q w G) : ix2 (.ref a) (.int i) G Q := by
  unfold ix2; dsimp only; rw [h]; exact ⟨w, e, q⟩
theorem set2_l {i : Int} {j : Nat} {v : W} {R : WH → Prop} (h : G a = some (.lst ws)) (e : ixN ws.length i = some j) (q : R (gup G a (.lst (ws.set j v)))) : set2 (.ref a) (.int i) v G R := by
  unfold set2; dsimp only; rw [h]; exact ⟨j, e, q⟩
theorem set2_d {v : W} {R : WH → Prop} (h : G a = some (.dct t kvs)) (hk : isKey t z = true) (hl : kvs.length < sizeLine) (q : R (gup G a (.dct t (putW kvs z v)))) : set2 (.ref a) z v G R := by
  unfold set2; dsimp only; rw [h]; exact ⟨hk, hl, q⟩
theorem lenW_l (h : G a = some (.lst ws)) : lenW G (.ref a) = some ws.length := by unfold lenW; dsimp only; rw [h]
theorem itemsW_l (h : G a = some (.lst ws)) : itemsW G (.ref a) = some ws := by unfold itemsW; dsimp only; rw [h]
theorem tyN_l (h : G a = some (.lst ws)) : tyN G (.ref a) = some "list" := by unfold tyN; dsimp only; rw [h]
theorem tyN_d (h : G a = some (.dct t kvs)) : tyN G (.ref a) = some "dict" := by unfold tyN; dsimp only; rw [h]
end
theorem dep_str {n : Nat} {x : Str} : Dep n (.str x) := .flat fun _ => ⟨(nomatch ·), (nomatch ·)⟩
theorem dep_non {n : Nat} : Dep n .non := .flat fun _ => ⟨(nomatch ·), (nomatch ·)⟩
theorem dep_int {n : Nat} {i : Int} : Dep n (.int i) := .flat fun _ => ⟨(nomatch ·), (nomatch ·)⟩
theorem dep_bl {n : Nat} {i : Bool} : Dep n (.bl i) := .flat fun _ => ⟨(nomatch ·), (nomatch ·)⟩
theorem gk {G : WH} {a p : Addr} {o o' : WO} (h : G a = some o) (hp : G p = none) : gup G p o' a = some o := (gup_ne (gne_of_none h hp)).trans h
end L3
namespace L3
open PySem PySem.Spec L2
open PyProof.Rows hiding St
section
variable {X : Cx} {pins : List (Addr × Obj)} {σ : St} {H : Hp} {s s' : Shared} {fp : List Addr}
theorem _root_.L2.Inv.turnedMany (I : Inv X pins σ H s) (hf : ∀ b ∈ fp, FpOk X pins H b) (ho : s'.os = s.os) (hb : AllBare s'.gens) (k : ∀ b o, b ∉ fp → s.heap.get? b = some o → s'.heap.get? b = some o) : Inv X pins σ H s' := by
  refine I.call' (s' := s') (ch := fp) ho ⟨fun b o e n _ hx => k b o hx e, fun b o e n _ hx => ⟨o.slots, k b o hx e⟩, fun b o e n _ => n, fun b o e hx => ⟨o, k b o hx e⟩, fun _ _ e => e, fun _ _ _ e => e, fun b ps e => ⟨#[], by rw [e]; simp⟩⟩ (fun b u e => ?_) hb fun b hb => ?_
  · refine (I.hok b u e).stay (fun c v hc q => k c v ?_ q) (fun _ q => q) fun _ _ q => q
    rcases hc with z | z
    · intro hm; rw [z] at hm; rw [(hf b hm).1] at e; cases e
    · intro hm; rw [(hf c hm).1] at z; cases z
  · exact ⟨(hf b hb).2.2.2.1, (hf b hb).2.1, (hf b hb).2.2.2.2.1, (hf b hb).2.2.2.2.2⟩
theorem _root_.L2.Inv.turnedTup {T : Addr} {vs : List V} {its : List Value} (I : Inv X pins σ H s) (hf : ∀ b ∈ fp, FpOk X pins H b) (hT : s.heap.objs.size ≤ T) (ho : s'.os = s.os) (hb : AllBare s'.gens) (k : ∀ b o, b ∉ fp → s.heap.get? b = some o → s'.heap.get? b = some o)
    (tp : IsTup s'.heap T its.toArray) (r : Vals vs its) (z : vs.length ≤ sizeLine) : Inv X pins σ (upd H T (.tup vs)) s' := by
  have hn : H T = none := I.hok.fresh hT
  refine I.call' (s' := s') (ch := fp) ho ⟨fun b o e n _ hx => k b o hx e, fun b o e n _ hx => ⟨o.slots, k b o hx e⟩, fun b o e n _ => ?_, fun b o e hx => ⟨o, k b o hx e⟩, fun b xs e => ?_, fun b o u e => ?_, fun b ps e => ⟨#[], ?_⟩⟩ (fun b u e => ?_) hb fun b hb => ?_
  · rw [upd_ne (Nat.ne_of_lt (Nat.lt_of_lt_of_le (Heap.lt_size e) hT))]; exact n
  · rw [upd_ne (ne_of_none e hn)]; exact e
  · rw [upd_ne (ne_of_none e hn)]; exact e
  · rw [upd_ne (ne_of_none e hn), e]; simp
  · by_cases hbT : b = T
    · subst hbT; rw [upd_same] at e; cases e
      exact ⟨z, its, r, tp⟩
    · rw [upd_ne hbT] at e
      refine (I.hok b u e).stay (fun c v hc q => k c v ?_ q) (fun c q => by rw [upd_ne (ne_of_none q hn)]; exact q) fun c xs q => by rw [upd_ne (ne_of_none q hn)]; exact q
      rcases hc with z | z
      · intro hm; rw [z] at hm; rw [(hf b hm).1] at e; cases e
      · intro hm; rw [(hf c hm).1] at z; cases z
  · exact ⟨(hf b hb).2.2.2.1, (hf b hb).2.1, (hf b hb).2.2.2.2.1, (hf b hb).2.2.2.2.2⟩
end
def Ite (K : PySem.W.Frag) (a : Addr) : It :=
  ⟨fun i H => ∃ xs x, SqL K H a xs ∧ xs[i]? = some x, fun i H x H' => ∃ p y, H p = none ∧ (∀ xs, SqL K H a xs → xs[i]? = some y) ∧ x = .ref p ∧ H' = upd H p (.tup [.int i, y]), fun i H => ∃ xs, SqL K H a xs ∧ xs.length ≤ i⟩
theorem turn_enum {P : Program} {w : World} {K : PySem.W.Frag} {elts : List Expr} {k : Nat} {pos : Pos} (l e it : Addr) (hei : e ≠ it) (hle : l ≠ e) (hli : l ≠ it) :
    Turn P w K (.Tuple elts k pos) (Ite K l) [e, it] e (fun i h => (∃ old, IsEnum h e it i old) ∧ h.IsListIter it l i) where
  mem := by simp
  obj := fun i h st b hb => by
    obtain ⟨⟨old, he⟩, ⟨o, e1, c, d⟩⟩ := st
    have hb' : b = e ∨ b = it := by simpa using hb
    rcases hb' with rfl | rfl
    · exact ⟨_, he, fun v z => by cases z⟩
    · exact ⟨o, e1, fun v z => by rw [d] at z; cases z⟩
  keep := fun i h h' st kk => ⟨let ⟨old, he⟩ := st.1; ⟨old, kk e (by simp) _ he⟩, st.2.at fun o e => kk it (by simp) o e⟩
  item := by
    intro X hP hw hK hc i pins s σ H E I hf st hg
    subst hP hw hK
    obtain ⟨xs, x, hq, hx⟩ := hg
    obtain ⟨its, rv, p, hz⟩ := I.list hq
    obtain ⟨u, hu, ru⟩ := rv.get hx
    have Wk := WalksT.enumerate (prog := X.prog) (w := X.w) (I.ok.hd hc) e it l hei hle hli its.toArray
    have hlt : i < its.toArray.size := by simpa using (List.getElem?_eq_some_iff.mp hu).1
    refine Wk.item i s _ _ hlt ⟨st.1, st.2, p.isList⟩ fun T vals h' tk hv hT htp hm hk => ?_
    obtain ⟨tt, y, hy, rfl⟩ := hv
    have hyu : y = u := by
      have : its[i]? = some y := by simpa using hy
      rw [hu] at this
      exact (Option.some.inj this).symm
    subst hyu
    refine ⟨_, rfl, Wk.go elts k pos i T { s with heap := h', toks := tk } _ _ hm fun h'' st' hk' => ?_⟩
    have kk : ∀ b o, b ∉ [e, it] → s.heap.get? b = some o → h''.get? b = some o := fun b o hb q => hk' b o hb (hk b o hb q)
    have htp' : IsTup h'' T #[.int i tt, y] := htp.at fun o q => hk' T o (Wk.apart i T _ hm) q
    have I2 := I.turnedTup (s' := { s with heap := h'', toks := tk }) hf hT rfl I.bare kk (its := [.int i tt, y]) (vs := [.int i, x]) (by simpa using htp') (.cons ⟨tt, rfl⟩ (.cons ru .nil)) (by show 2 ≤ sizeLine; decide)
    refine ⟨.ref T, _, I2, rfl, ⟨T, x, I.hok.fresh hT, fun ys hy => by rw [I.list_inj hy hq]; exact hx, rfl, rfl⟩, ⟨?_, st'.2.1⟩, fun b hb => ?_⟩
    · obtain ⟨old, q⟩ := st'.1
      exact ⟨old, q⟩
    · have h1 := (hf b hb).1
      obtain ⟨o, ho⟩ : ∃ o, s.heap.get? b = some o := by
        obtain ⟨⟨old, he⟩, ⟨o, e1, c, d⟩⟩ := st
        have hb' : b = e ∨ b = it := by simpa using hb
        rcases hb' with rfl | rfl
        · exact ⟨_, he⟩
        · exact ⟨o, e1⟩
      rw [upd_ne (Nat.ne_of_lt (Nat.lt_of_lt_of_le (Heap.lt_size ho) hT))]; exact h1
  done := by
    intro X hP hw hK hc i pins s σ H E I hf st hg
    subst hP hw hK
    obtain ⟨xs, hq, hx⟩ := hg
    obtain ⟨its, rv, p, hz⟩ := I.list hq
    obtain ⟨⟨old, he⟩, hit⟩ := st
    exact wpAny_pyNext_enum_end (I.ok.hd hc) he hit p.isList (Array.getElem?_eq_none (by have := rv.length; simp; omega)) fun h' hk => ⟨rfl, I.turnedMany (s' := { s with heap := h' }) hf rfl I.bare fun b o hb q => hk b o (fun z => hb (by simp [z])) q⟩
  self := fun _ _ _ _ _ st h => let ⟨_, he⟩ := st.1; wpAny_pyIter_enum he h
section
variable {X : Cx} {elts : List Expr} {k : Nat} {tpos : Pos}
def iEnum (K : PySem.W.Frag) (ta : TA) : TI := fun σ H R => ta σ H fun vs H1 => ∃ l, vs = [.ref l] ∧ (∃ xs, SqL K H1 l xs) ∧ R (Ite K l) H1
theorem pi_enum {a : Expr} {ta : TA} {p pos : Pos} (hg : Gl X "enumerate") (hm : X.mg "enumerate" = none) (ha : PA X [a] ta) (hs : starEach [a] X.env = [(false, eval a X.env)] := by rfl) : PI X (.Tuple elts k tpos) (.Call (.Name "enumerate" p) [a] [] pos) (iEnum X.K ta) := by
  intro pins s σ H R I h
  refine Call_ (ld_blt I hg hm (by rfl) (PyProof.Rows.callWith_type1 (thn (ha pos pins s σ H _ I h) fun us s1 ⟨vs, H1, I1, r1, q1⟩ => ?_) hs rfl))
  obtain ⟨l, e, ⟨xs, hq⟩, q⟩ := q1
  subst e
  obtain ⟨u, rfl, ru⟩ := r1.one
  cases ru
  obtain ⟨its, rv, pl, hz⟩ := I1.list hq
  have hll : l < s1.heap.objs.size := by obtain ⟨o, e, _⟩ := pl.isList; exact Heap.lt_size e
  refine call_enumerate_list pl.isList fun h' hE hI hsz hk => wpAny_pyIter_enum hE ?_
  have I2 : Inv X pins σ H1 { s1 with heap := h' } := I1.kept (t' := s1.toks) hk
  refine ⟨_, _, _, _, H1, rfl, I2, turn_enum l (s1.heap.objs.size + 1) s1.heap.objs.size (Nat.succ_ne_self _) (Nat.ne_of_lt (Nat.lt_succ_of_lt hll)) (Nat.ne_of_lt hll), ⟨⟨_, hE⟩, hI⟩, fun b hb => ?_, q⟩
  have hb' : b = s1.heap.objs.size + 1 ∨ b = s1.heap.objs.size := by simpa using hb
  rcases hb' with rfl | rfl
  · exact I1.fpOk (Nat.le_succ _) (I1.hok.fresh (Nat.le_succ _))
  · exact I1.fpOk (Nat.le_refl _) (I1.hok.fresh (Nat.le_refl _))
def enumW (ws : List W) : List W := (List.range ws.length).zipWith (fun (i : Nat) w => W.tup [.int i, w]) ws
theorem enumW_len (ws : List W) : (enumW ws).length = ws.length := by simp [enumW]
theorem enumW_get {ws : List W} {i : Nat} {w : W} (h : (enumW ws)[i]? = some w) : ∃ z, ws[i]? = some z ∧ w = .tup [.int i, z] := by
  have hl := (List.getElem?_eq_some_iff.mp h).1
  rw [enumW_len] at hl
  refine ⟨ws[i], by simp [hl], ?_⟩
  simp [enumW, hl] at h
  exact h.symm
def i_enumerate1 (t : TA2) : TI2 := fun τ G R => t τ G fun vs G1 => match vs with
  | [.ref a] => ∃ ws, G1 a = some (.lst ws) ∧ R (enumW ws) (fun G => G a = some (.lst ws)) G1
  | _ => False
theorem i_enum {a : Expr} {t : TA2} {p pos : Pos} (hg : Gl X "enumerate") (hm : X.mg "enumerate" = none) (ha : PA2 X [a] t) (hs : starEach [a] X.env = [(false, eval a X.env)] := by rfl) : PI2 X (.Tuple elts k tpos) (.Call (.Name "enumerate" p) [a] [] pos) (i_enumerate1 t) := by
  simp only [PA2, PI2] at *
  exact (PI.imp (pi_enum hg hm ha hs) fun σ H R ⟨τ, G, R2, hs, hg, ht, c⟩ => ⟨τ, G, _, hs, hg, ht, fun vs H1 ws G1 t1 s1 r1 h1 => by
    split at h1
    · rename_i a
      obtain ⟨ws, e1, h1⟩ := h1
      obtain ⟨v0, e0, r0⟩ := r1.un1
      subst e0
      cases r0
      obtain ⟨vs0, hv0, _⟩ := s1 _ _ e1
      refine ⟨_, rfl, ⟨_, .of hv0⟩, c _ H1 (enumW ws) _ G1 t1 s1 ⟨fun i H' G' w' tx sg va e => ?_, fun H' G' tx sg va => ?_⟩ h1⟩
      · obtain ⟨z, hz, rfl⟩ := enumW_get e
        obtain ⟨vs, hv, r⟩ := sg _ _ va
        obtain ⟨v, e', rv⟩ := r.get hz
        refine ⟨⟨_, v, .of hv, e'⟩, fun x H'' ⟨p, y, hp, hy, ex, eH⟩ => ?_⟩
        have := hy _ (.of hv)
        rw [e'] at this
        cases this
        subst ex eH
        exact ⟨.fresh hp, sg.fresh hp, .tup (.inl upd_same) (.cons (.int _) (.cons (rv.mono (.fresh hp)) .nil))⟩
      · obtain ⟨vs, hv, r⟩ := sg _ _ va
        exact ⟨_, .of hv, by rw [enumW_len, ← r.length]; exact Nat.le_refl _⟩
    · exact False.elim h1⟩)
end
end L3
namespace L3
open PySem PySem.Spec L2
open PyProof.Rows hiding St
structure TyC (K : PySem.W.Frag) (C : Addr) : Prop where
  cl : Cls K C
  ha : PySem.W.findIn K (.ref C) "__class__" = some (some (.builtin "object.__class__"))
  hn : PySem.W.specialIn K (.builtin "object.__class__") "__get__" = some (some (.builtin "getset_descriptor.__get__"))
  htk : PySem.W.takesIn K (.builtin "object.__class__") = some true
  hm : PySem.W.mroIn K C (.type "object") = some true
section
variable {X : Cx} {a b c : Expr} {ta tb tc : TE2} {pos : Pos}
end
structure MkP (K : PySem.W.Frag) (C : Addr) : Prop where
  makes : PySem.W.makesIn K C = true
  init : PySem.W.findIn K (.ref C) "__init__" = some (some (.builtin "object.__init__"))
  kp : PySem.W.keepIn K (.ref C) = true
abbrev TO2 := St2 → WH → (Option Int → WH → Prop) → Prop
def lowO (K : PySem.W.Frag) (t : TO2) : TO := fun σ H Q => ∃ τ G Q2, SimS K H τ σ ∧ Sim K G H ∧ t τ G Q2 ∧ ∀ o H' G', TX H H' → Sim K G' H' → Q2 o G' → Q o H'
@[irreducible] def PO2 (X : Cx) (e : Option Expr) (t : TO2) : Prop := PO X e (lowO X.K t)
def uNoPart : TO2 := fun _ G Q => Q none G
def uPart (t : TE2) : TO2 := fun τ G Q => t τ G fun w G1 => match w with
  | .int i => Q (some i) G1
  | _ => False
def cutW (xs : List W) (lo hi : Option Int) : List W := (xs.drop (HT.sIx xs.length 0 lo)).take (HT.sIx xs.length xs.length hi - HT.sIx xs.length 0 lo)
theorem Reps.cut {K : PySem.W.Frag} {H : Hp} {ws : List W} {vs : List V} (r : Reps K H ws vs) (lo hi : Option Int) : Reps K H (cutW ws lo hi) (cutV vs lo hi) := by
  unfold cutW cutV
  rw [r.length]
  exact (r.drop _).take _
def uSlice (te : TE2) (tl th : TO2) : TE2 := fun τ G Q => te τ G fun w G1 => tl τ G1 fun l G2 => th τ G2 fun u G3 => match w with
  | .scr ws => ∀ p, G3 p = none → Q (.ref p) (gup G3 p (.lst (cutW ws l u)))
  | .ref a => ∃ ws, G3 a = some (.lst ws) ∧ ∀ p, G3 p = none → Q (.ref p) (gup G3 p (.lst (cutW ws l u)))
  | .tup ws => ¬ (HT.sIx ws.length 0 l = 0 ∧ HT.sIx ws.length ws.length u = ws.length) ∧ Q (.tup (cutW ws l u)) G3
  | _ => False
section
variable {X : Cx} {e : Expr} {te : TE2} {lo hi : Option Expr} {tl th : TO2} {pos p2 : Pos}
theorem p_none : PO2 X none uNoPart := by
  simp only [PO2] at *
  exact (fun pins s σ H Q I ⟨τ, G, Q2, hs, hg, ht, hc⟩ => po_none pins s σ H Q I (hc none H G (.refl H) hg ht))
theorem p_some (h : PE2 X e te) : PO2 X (some e) (uPart te) := by
  simp only [PE2, PO2] at *
  exact (fun pins s σ H Q I ⟨τ, G, Q2, hs, hg, ht, hc⟩ => po_some h pins s σ H Q I ⟨τ, G, _, hs, hg, ht, fun v H1 w G1 t1 s1 r1 h1 => by
  cases w <;> first | exact False.elim h1 | skip
  cases r1
  exact ⟨_, rfl, hc _ H1 G1 t1 s1 h1⟩⟩)
theorem e_slice (he : PE2 X e te) (hl : PO2 X lo tl) (hu : PO2 X hi th) : PE2 X (.Subscript e (.Slice lo hi none p2) pos) (uSlice te tl th) := by
  simp only [PE2, PO2] at *
  exact (PE.imp (pe_slice (sl_list.or sl_tup) he hl hu) fun σ H Q ⟨τ, G, Q2, hs, hg, ht, hc⟩ => ⟨τ, G, _, hs, hg, ht, fun v H1 w G1 t1 s1 r1 h1 =>
    ⟨τ, G1, _, hs.mono t1, s1, h1, fun l H2 G2 t2 s2 h2 => ⟨τ, G2, _, hs.mono (t1.trans t2), s2, h2, fun u H3 G3 t3 s3 h3 => by
      have t13 := (t1.trans t2).trans t3
      have r3 := r1.mono (t2.trans t3)
      cases w <;> first | exact False.elim h3 | skip
      case scr ws =>
        cases r3 with
        | scr t r => exact .inl ⟨_, _, rfl, t.sq, fun p hp => hc _ _ _ _ (t13.trans (.fresh hp)) (s3.laid hp (.l upd_same ((r.cut l u).mono (.fresh hp)))) (.ref p) (h3 p (s3.no hp))⟩
      case ref a =>
        cases r3
        obtain ⟨ws, ea, h3⟩ := h3
        obtain ⟨vs, hv, r⟩ := s3 _ _ ea
        exact .inl ⟨_, _, rfl, .of hv, fun p hp => hc _ _ _ _ (t13.trans (.fresh hp)) (s3.laid hp (.l upd_same ((r.cut l u).mono (.fresh hp)))) (.ref p) (h3 p (s3.no hp))⟩
      case tup ws =>
        cases r3 with
        | tup t r =>
          refine .inr ⟨_, _, rfl, t.sq, by rw [← r.length]; exact h3.1, fun p hp => ?_⟩
          exact hc _ _ _ _ (t13.trans (.fresh hp)) (s3.fresh hp) (.tup (.inl upd_same) ((r.cut l u).mono (.fresh hp))) h3.2⟩⟩⟩)
end
abbrev M22 := W → List W → WH → VK2 → Prop
def isL (G : WH) : W → Prop
  | .ref a => ∃ ws, G a = some (.lst ws)
  | _ => False
def lowM (K : PySem.W.Frag) (r : M22) : V → List V → Hp → VK → Prop := fun x xs H Q => ∃ w ws G Q2, Sim K G H ∧ Rep K H w x ∧ Reps K H ws xs ∧ r w ws G Q2 ∧ Cont K H Q2 Q
def uBm (r : M22) (to : TE2) (t : TA2) : TE2 := fun τ G Q => to τ G fun w G1 => isL G1 w ∧ t τ G1 fun ws G2 => r w ws G2 Q
theorem isL_ty {K : PySem.W.Frag} {G : WH} {H : Hp} {w : W} {x : V} (S : Sim K G H) (r : Rep K H w x) (h : isL G w) : tyV K "list" x H := by
  cases w <;> first | exact False.elim h | skip
  cases r
  obtain ⟨ws, e⟩ := h
  obtain ⟨vs, hv, _⟩ := S _ _ e
  exact .inl ⟨rfl, vs, .of hv⟩
section
variable {X : Cx} {o e : Expr} {es : List Expr} {to : TE2} {t : TA2} {name : Str} {apos cpos : Pos} {id : String} {r : M22} {rl : V → List V → Hp → VK → Prop}
theorem e_bm (slot : Slot "list" name id) (hty : typeOf (.builtin id) = pure (.type "method_descriptor")) (hm : MtM X id rl) (le : ∀ x xs H Q, lowM X.K r x xs H Q → rl x xs H Q) (ho : PE2 X o to) (ha : PA2 X (e :: es) t)
    (hbase : attributeBase o name X.env (eval o X.env) = eval o X.env := by rfl)
    (hfew : ((backTo cpos (starEach (e :: es) X.env)).all (fun x => !x.1) && (backToKw cpos (keywordEach [] X.env)).all (fun x => x.1.isSome)
      && decide ((e :: es).length + ([] : List Keyword).length + (if ([] : List Keyword).isEmpty then 0 else 1) < 30)) = true := by rfl)
    (hline : (apos.endLine == cpos.line) = true := by rfl) (hs : starEach (e :: es) X.env = (false, eval e X.env) :: starEach es X.env := by rfl) (hplain : (backTo cpos (starEach es X.env)).any (·.1) = false := by rfl) :
    PE2 X (.Call (.Attribute o name apos) (e :: es) [] cpos) (uBm r to t) := by
  simp only [PE2, PA2] at *
  exact (PE.imp (pe_bm PySem.F.plainAttrs_list slot hty hm ho ha hbase hfew hline hs hplain) fun σ H Q ⟨τ, G, Q2, hs, hg, ht, hc⟩ => ⟨τ, G, _, hs, hg, ht, fun v H1 w G1 t1 s1 r1 h1 =>
    ⟨isL_ty s1 r1 h1.1, τ, G1, _, hs.mono t1, s1, h1.2, fun vs H2 ws G2 t2 s2 r2 h2 => le _ _ _ _ ⟨w, ws, G2, Q2, s2, r1.mono t2, r2, h2, hc.mono (t1.trans t2)⟩⟩⟩)
end
def m_append : M22 := fun w ws G Q => match w, ws with
  | .ref a, [y] => ∃ xs, G a = some (.lst xs) ∧ xs.length < sizeLine ∧ Q .non (gup G a (.lst (xs ++ [y])))
  | _, _ => False
theorem le_append {K : PySem.W.Frag} (x : V) (xs : List V) (H : Hp) (Q : VK) (h : lowM K m_append x xs H Q) : rAppend x xs H Q := by
  obtain ⟨w, ws, G, Q2, S, r1, r2, q, c⟩ := h
  unfold m_append at q
  split at q
  · obtain ⟨zs, e, hl, q⟩ := q
    obtain ⟨v0, rfl, r0⟩ := r2.un1
    cases r1
    have mu := (S _ _ e).mut
    obtain ⟨vs, hv, rv⟩ := S _ _ e
    refine ⟨_, vs, v0, rfl, rfl, hv, by rw [← rv.length]; exact hl, c _ _ _ _ (.write mu) (S.write mu (.l upd_same ((rv.append (.cons r0 .nil)).mono (.write mu)))) .non q⟩
  · exact False.elim q
section
variable {X : Cx} {o e : Expr} {to : TE2} {t : TA2} {apos cpos : Pos}
theorem e_m_append (ho : PE2 X o to) (ha : PA2 X [e] t) (hbase : attributeBase o "append" X.env (eval o X.env) = eval o X.env := by rfl)
    (hfew : ((backTo cpos (starEach [e] X.env)).all (fun x => !x.1) && (backToKw cpos (keywordEach [] X.env)).all (fun x => x.1.isSome) && decide (([e] : List Expr).length + ([] : List Keyword).length + (if ([] : List Keyword).isEmpty then 0 else 1) < 30)) = true := by rfl)
    (hline : (apos.endLine == cpos.line) = true := by rfl) (hs : starEach [e] X.env = (false, eval e X.env) :: starEach [] X.env := by rfl) : PE2 X (.Call (.Attribute o "append" apos) [e] [] cpos) (uBm m_append to t) :=
  e_bm PySem.F.slot_list_append PySem.F.type_list_append mt_append le_append ho ha hbase hfew hline hs rfl
end
section
variable {X : Cx} {o e f : Expr} {apos cpos : Pos} {to ty tx : TE2}
end
def uNeg (ta : TE2) : TE2 := fun τ G Q => ta τ G fun x G1 => match x with
  | .int i => Q (.int (-i)) G1
  | _ => False
theorem e_neg {X : Cx} {a : Expr} {ta : TE2} {pos : Pos} (ha : PE2 X a ta) : PE2 X (.UnaryOp .USub a pos) (uNeg ta) := by
  simp only [PE2] at *
  exact (PE.imp (pe_un un_neg ha) fun σ H Q ⟨τ, G, Q2, hs, hg, ht, hc⟩ => ⟨τ, G, _, hs, hg, ht, fun v H1 w G1 t1 s1 r1 h1 => by
    cases w <;> first | exact False.elim h1 | skip
    cases r1
    exact ⟨_, rfl, hc _ H1 _ G1 t1 s1 (.int _) h1⟩⟩)
section
variable {P : Program} {w : World} {K : PySem.W.Frag} {mg : Str → Option Value} {base : Heap}
end
end L3
namespace L3
open PySem PySem.Spec L2
open PyProof.Rows hiding St
def Ext (G G' : WH) : Prop := ∀ b u, G b = some u → G' b = some u
theorem Ext.refl (G : WH) : Ext G G := fun _ _ e => e
theorem Ext.trans {G G1 G2 : WH} (a : Ext G G1) (b : Ext G1 G2) : Ext G G2 := fun c u e => b c u (a c u e)
theorem Ext.new {G : WH} {p : Addr} {o : WO} (h : G p = none) : Ext G (gup G p o) := fun b u e => gk e h
theorem gup_gup {G : WH} {a : Addr} {o u : WO} : gup (gup G a o) a u = gup G a u := by funext b; unfold gup; split <;> rfl
theorem Ext.none {G G' : WH} (e : Ext G G') {p : Addr} (h : G' p = none) : G p = none := by
  cases q : G p with
  | none => rfl
  | some u => rw [e p u q] at h; cases h
theorem andv {c d : Bool} {R : Bool → Prop} {X : Prop} (q : R (c && d)) (h : R d → X) : if c = true then X else R false := by
  cases c with
  | true => exact iteT (h q)
  | false => exact iteF q
theorem ifd {c : Prop} [Decidable c] {A B : Prop} (h1 : c → A) (h2 : ¬ c → B) : if decide c = true then A else B := by
  by_cases h : c
  · rw [if_pos (decide_eq_true h)]; exact h1 h
  · rw [if_neg (by simpa using h)]; exact h2 h
theorem ifb {c : Bool} {A B : Prop} (h1 : c = true → A) (h2 : c = false → B) : if c = true then A else B := by
  cases c with
  | true => exact iteT (h1 rfl)
  | false => exact iteF (h2 rfl)
theorem ifeq {i j : Int} {A B : Prop} (h1 : i = j → A) (h2 : i ≠ j → B) : if (i == j) = true then A else B := by
  by_cases h : i = j
  · subst h; rw [if_pos (by simp)]; exact h1 rfl
  · rw [if_neg (by simpa using h)]; exact h2 h
theorem sz {n : Nat} (h : n ≤ 1000) : n ≤ sizeLine := Nat.le_trans h (by decide)
theorem sz' {n : Nat} (h : n < 1000) : n < sizeLine := Nat.lt_of_lt_of_le h (by decide)
def cellAt (ns : List Int) (k : Nat) : Int := (ns[k]?).getD 0
end L3
namespace L3
open PySem PySem.Spec L2
open PyProof.Rows hiding St
theorem dict_mapFields (f : Array Value → Array Value) (o : Obj) : (Obj.mapFields f o).dict = o.dict := by
  obtain ⟨c, d, dt, sl⟩ := o
  cases dt <;> rfl
structure Flown (fr : List Addr) (s1 s' : Shared) (x : Addr) (C : Value) (st : Option Value → Prop) : Prop where
  os : s'.os = s1.os
  bare : AllBare s'.gens
  new : s1.heap.get? x = none
  keep : ∀ b o, s1.heap.get? b = some o → b ∉ fr → s'.heap.get? b = some o
  slot : ∀ b o, s1.heap.get? b = some o → ∃ sl, s'.heap.get? b = some { o with slots := sl }
  there : ∃ oe vs, s'.heap.get? x = some oe ∧ oe.cls = C ∧ oe.data = .fields vs ∧ (1 < vs.size ∧ vs[2]? = some .none ∧ oe.dict = none) ∧ ((vs[1]? = some .none ∧ st none) ∨ ∃ T oT ts z, vs[1]? = some (.ref T) ∧ T ≠ x ∧ s1.heap.get? T = none ∧ s'.heap.get? T = some oT ∧ oT.data = .fields ts ∧ ts[3]? = some z ∧ st (some z))
theorem Flown.imp {fr : List Addr} {s1 s' : Shared} {x : Addr} {C : Value} {st st' : Option Value → Prop} (F : Flown fr s1 s' x C st) (h : ∀ o, st o → st' o) : Flown fr s1 s' x C st' := by
  obtain ⟨a, b, c, d, e, oe, vs, h1, h2, h3, h4, h5⟩ := F
  refine ⟨a, b, c, d, e, oe, vs, h1, h2, h3, h4, ?_⟩
  rcases h5 with ⟨h5, h6⟩ | ⟨T, oT, ts, z, k1, k2, k3, k4, k5, k6, k7⟩
  · exact .inl ⟨h5, h _ h6⟩
  · exact .inr ⟨T, oT, ts, z, k1, k2, k3, k4, k5, k6, h _ k7⟩
def stL (L : Addr) : Option Value → Prop := fun o => o = some (rawInt L)
def stN : Option Value → Prop := fun o => o = some .none
def stB (L : Addr) : Option Value → Prop := fun o => o = none ∨ o = some .none ∨ o = some (rawInt L)
section
variable {M : Model} {A : Around} {E : Value → Shared → Prop} {s s1 : Shared} {fr : List Addr} {x : Addr} {C : Value} {base : Heap} {env : Env} {outer : List Env} {L : Addr}
theorem Flown.funs {l : List Env} {st : Option Value → Prop} (F : Flown fr s1 s x C st) (hl : s1.heap.FunFrames base l) : s.heap.FunFrames base l :=
  hl.of_keeps fun b o hb _ => let ⟨sl, e⟩ := F.slot b o hb; ⟨_, e, rfl⟩
theorem fl_entry {head : Value} {hadNext : Bool} {Q : Unit → Shared → Prop} {oe : Obj} {vs : Array Value} (hfr : A.frames = some (env :: outer)) (hl1 : s1.heap.FunFrames base (env :: outer)) (hl : s.heap.FunFrames base (env :: outer)) (hf : env.frame = some L) (hs : ∀ b ∈ frs (env :: outer), b ∈ fr)
    (os : s.os = s1.os) (bare : AllBare s.gens) (new : s1.heap.get? x = none) (keep : ∀ b o, s1.heap.get? b = some o → b ∉ fr → s.heap.get? b = some o) (slot : ∀ b o, s1.heap.get? b = some o → ∃ sl, s.heap.get? b = some { o with slots := sl })
    (he : s.heap.get? x = some oe) (hc : oe.cls = C) (hd : oe.data = .fields vs) (hsz2 : 1 < vs.size ∧ vs[2]? = some .none ∧ oe.dict = none) (h : ∀ s', Flown fr s1 s' x C (stL L) → Q () s') :
    wpAny M A (do let a ← frameOf env; let pl ← entryPlaceOf L hadNext; let b ← EntryCells.newEntry head a .none (rawInt L) .none pl; setField (.ref x) 1 b) Q E s := by
  have hsz := hsz2.1
  have inS1 : ∀ b ∈ frs (env :: outer), ∃ o, s1.heap.get? b = some o := fun b hb => let ⟨_, o, ho, _⟩ := hl1.mem hb; ⟨o, ho⟩
  have hxf : x ∉ frs (env :: outer) := fun hm => by obtain ⟨o, ho⟩ := inS1 x hm; rw [new] at ho; cases ho
  refine wpAny_bind (wpAny_frameOf_fun hfr hl hf fun h₁ hs₁ => ?_)
  refine wpAny_bind (wpAny_entryPlaceOf fun pl hpl => ?_)
  unfold EntryCells.newEntry newFields
  refine wpAny_bind (wpAny_newObj_type ?_ (hpl.sizeOk5 _ _ _ _ _))
  have he₁ : h₁.get? x = some oe := (hs₁.2.1 x hxf).trans he
  have he₂ := Heap.get?_push_of_some (h := h₁) { cls := .type "traceback", dict := none, data := .fields ([head, .ref L, .none, rawInt L, .none] ++ (if pl.isEmpty then List.replicate 6 Value.none else pl)).toArray } he₁
  refine wpAny_setField he₂ hd hsz (h _ ?_)
  have hTe : h₁.objs.size ≠ x := Nat.ne_of_gt (Heap.lt_size he₁)
  have hd₃ := Obj.data_mapFields hd (·.setIfInBounds 1 (Value.ref h₁.objs.size))
  have kk : ∀ b o, b ≠ x → h₁.get? b = some o → ((h₁.push { cls := .type "traceback", dict := none, data := .fields ([head, .ref L, .none, rawInt L, .none] ++ (if pl.isEmpty then List.replicate 6 Value.none else pl)).toArray }).update x (Obj.mapFields (·.setIfInBounds 1 (Value.ref h₁.objs.size)))).get? b = some o := fun b o hb e => by
    rw [Heap.get?_update_other _ _ (Ne.symm hb)]
    exact Heap.get?_push_of_some _ e
  have nx : ∀ b o, s1.heap.get? b = some o → b ≠ x := fun b o e z => by rw [z, new] at e; cases e
  refine ⟨os, bare, new, fun b o e hb => kk b o (nx b o e) ((hs₁.2.1 b fun z => hb (hs b z)).trans (keep b o e hb)), fun b o e => ?_, ?_⟩
  · obtain ⟨sl, e1⟩ := slot b o e
    obtain ⟨sl', e2⟩ := hs₁.2.2 b _ e1
    exact ⟨sl', kk b _ (nx b o e) e2⟩
  · refine ⟨_, _, Heap.get?_update_self _ he₂ (Obj.isFreed_of_fields hd₃), (Obj.cls_mapFields _ _).trans hc, hd₃, ⟨by simpa using hsz, by rw [Array.getElem?_setIfInBounds_ne (by decide)]; exact hsz2.2.1, (dict_mapFields _ _).trans hsz2.2.2⟩, .inr ⟨h₁.objs.size, { cls := .type "traceback", dict := none, data := .fields ([head, .ref L, .none, rawInt L, .none] ++ (if pl.isEmpty then List.replicate 6 Value.none else pl)).toArray }, ([head, .ref L, .none, rawInt L, .none] ++ (if pl.isEmpty then List.replicate 6 Value.none else pl)).toArray, rawInt L, by simp [hsz], hTe, ?_, ?_, rfl, ?_, rfl⟩⟩
    · cases q : s1.heap.get? h₁.objs.size with
      | none => rfl
      | some o =>
        obtain ⟨sl, e1⟩ := slot _ _ q
        obtain ⟨sl', e2⟩ := hs₁.2.2 _ _ e1
        exact absurd (Heap.lt_size e2) (Nat.lt_irrefl _)
    · rw [Heap.get?_update_other _ _ (Ne.symm hTe)]
      exact Heap.get?_push_size h₁ rfl
    · first | (simp; done) | (rcases hpl with rfl | ⟨_, _, _, _, _, _, _, rfl⟩ <;> simp)
theorem fl_note {Q : Unit → Shared → Prop} (hfr : A.frames = some (env :: outer)) (hl1 : s1.heap.FunFrames base (env :: outer)) (hf : env.frame = some L) (hs : ∀ b ∈ frs (env :: outer), b ∈ fr) (F : Flown fr s1 s x C (stB L))
    (h : ∀ s', Flown fr s1 s' x C (stL L) → Q () s') : wpAny M A (noteFrame (.ref x) env) Q E s := by
  obtain ⟨os, bare, new, keep, slot, oe, vs, he, hc, hd, hsz, hT⟩ := id F
  unfold noteFrame
  simp only [hf]
  rcases hT with ⟨h1, _⟩ | ⟨T, oT, ts, z, h1, hTx, hT1, hT, hdT, h3, hz⟩
  · refine wpAny_bind (wpAny_field he hd h1 ?_)
    rw [if_neg (by decide)]
    exact fl_entry hfr hl1 (F.funs hl1) hf hs os bare new keep slot he hc hd hsz h
  · refine wpAny_bind (wpAny_field he hd h1 ?_)
    rw [if_pos (show (Value.ref T != Value.none) = true from by simp)]
    refine wpAny_bind (wpAny_field hT hdT h3 ?_)
    rcases hz with hz | hz | hz
    · cases hz
    · cases hz
      rw [if_neg (show ¬ ((Value.none == rawInt L) = true) from by simp [rawInt])]
      refine wpAny_bind (wpAny_setField hT hdT (Array.getElem?_eq_some_iff.mp h3).1 ?_)
      have other : ∀ b, b ≠ T → (s.heap.update T (Obj.mapFields (·.setIfInBounds 3 Value.none))).get? b = s.heap.get? b := fun b hb => Heap.get?_update_other _ _ (Ne.symm hb)
      have nT : ∀ b o, s1.heap.get? b = some o → b ≠ T := fun b o e z => by rw [z, hT1] at e; cases e
      refine fl_entry (s := { s with heap := s.heap.update T (Obj.mapFields (·.setIfInBounds 3 Value.none)) }) hfr hl1 (hl1.of_keeps fun b o hb _ => ?_) hf hs os bare new (fun b o e hb => (other b (nT b o e)).trans (keep b o e hb)) (fun b o e => ?_) ((other x (Ne.symm hTx)).trans he) hc hd hsz h
      · obtain ⟨sl, e⟩ := slot b o hb
        exact ⟨_, (other b (nT b o hb)).trans e, rfl⟩
      · obtain ⟨sl, e1⟩ := slot b o e
        exact ⟨sl, (other b (nT b o e)).trans e1⟩
    · cases hz
      rw [if_pos (show (rawInt L == rawInt L) = true from by first | (simp; done) | exact beq_self_eq_true _)]
      exact wpAny_pure (h s ⟨os, bare, new, keep, slot, oe, vs, he, hc, hd, hsz, .inr ⟨T, oT, ts, _, h1, hTx, hT1, hT, hdT, h3, rfl⟩⟩)
theorem fl_set {Q : Unit → Shared → Prop} {f : Option Addr} (F : Flown fr s1 s x C (stL L)) (h : ∀ s', Flown fr s1 s' x C (fun o => o = some (f.elim .none fun f => rawInt f)) → Q () s') : wpAny M A (setFlight (.ref x) f) Q E s := by
  obtain ⟨os, bare, new, keep, slot, oe, vs, he, hc, hd, hsz, hT⟩ := id F
  rcases hT with ⟨h1, hz⟩ | ⟨T, oT, ts, z, h1, hTx, hT1, hT, hdT, h3, hz⟩
  · cases hz
  · unfold setFlight
    refine wpAny_bind (wpAny_field he hd h1 ?_)
    rw [if_pos (show (Value.ref T != Value.none) = true from by simp)]
    have h3s := (Array.getElem?_eq_some_iff.mp h3).1
    refine wpAny_setField hT hdT h3s (h _ ?_)
    have other : ∀ b, b ≠ T → (s.heap.update T (Obj.mapFields (·.setIfInBounds 3 (f.elim Value.none fun f => rawInt f)))).get? b = s.heap.get? b := fun b hb => Heap.get?_update_other _ _ (Ne.symm hb)
    have nT : ∀ b o, s1.heap.get? b = some o → b ≠ T := fun b o e z => by rw [z, hT1] at e; cases e
    have hd₃ := Obj.data_mapFields hdT (·.setIfInBounds 3 (f.elim Value.none fun f => rawInt f))
    refine ⟨os, bare, new, fun b o e hb => (other b (nT b o e)).trans (keep b o e hb), fun b o e => ?_, oe, vs, (other x (Ne.symm hTx)).trans he, hc, hd, hsz, .inr ⟨T, _, _, _, h1, hTx, hT1, Heap.get?_update_self _ hT (Obj.isFreed_of_fields hd₃), hd₃, by simp [h3s], rfl⟩⟩
    obtain ⟨sl, e1⟩ := slot b o e
    exact ⟨sl, (other b (nT b o e)).trans e1⟩
end
end L3
namespace L3
open PySem PySem.Spec L2
open PyProof.Rows hiding St
def Young (X : Cx) (H : Hp) (Ls : List Addr) : Prop := ∀ b ∈ Ls, X.s₀.heap.objs.size ≤ b ∧ b ≠ X.env.locals ∧ (∀ x c, X.env.cells.lookup x = some c → c ≠ b) ∧ (∀ p ∈ X.pn, p.1 ≠ b) ∧ H b = none
def ExS (X : Cx) (E : St → XK) : Value → Shared → Prop := fun e s' => ∃ x C s1 σ H Ls, e = .ref x ∧ Inv X [] σ H s1 ∧ Young X H Ls ∧ Flown (Ls ++ frs X.stack) s1 s' x (.ref C) (stB X.env.locals) ∧ E σ (.ref C) none H
def CXo (P : Program) (w : World) (K : PySem.W.Frag) : CXT := fun outer H s E e s' => ∃ x C s1 H' Ls, e = .ref x ∧ s1.os = s.os ∧ AllBare s1.gens ∧ Un (frs outer) [] H H' s.heap s1.heap ∧ HOk P w K H' s1.heap ∧
  (∀ b ∈ Ls, s.heap.objs.size ≤ b ∧ H' b = none) ∧ Flown (Ls ++ frs outer) s1 s' x (.ref C) stN ∧ E (.ref C) none H'
theorem tx_un {fs ex : List Addr} {H H' : Hp} {h h' : Heap} (u : Un fs ex H H' h h') : TX H H' := ⟨u.tups, u.frzs⟩
def EX (X : Cx) (E : St → XK) (σ : St) : XK := fun c xd H' => TX X.H₀ H' → E σ c xd H'
theorem Flown.frs {fr fr' : List Addr} {s1 s' : Shared} {x : Addr} {C : Value} {st : Option Value → Prop} (F : Flown fr s1 s' x C st) (h : ∀ b ∈ fr, b ∈ fr') : Flown fr' s1 s' x C st :=
  ⟨F.os, F.bare, F.new, fun b o e hb => F.keep b o e fun z => hb (h b z), F.slot, F.there⟩
section
variable {X : Cx} {pins : List (Addr × Obj)} {σ : St} {H : Hp} {s s1 s' : Shared} {x : Addr} {C : Value} {st : Option Value → Prop} {E : St → XK} {Ls : List Addr}
theorem _root_.L2.Inv.nopins (I : Inv X pins σ H s) : Inv X [] σ H s := I.pins_of fun p hp => by cases hp
theorem _root_.L2.Inv.flown (I : Inv X [] σ H s1) (y : Young X H Ls) (F : Flown (Ls ++ frs X.stack) s1 s' x C st) : Inv X [] σ H s' := by
  refine I.call' (s' := s') (ch := Ls) F.os ⟨fun b o e n hb hx => F.keep b o e ?_, fun b o e n hb hx => F.slot b o e, fun b o e n hx => n, fun b o e hx => let ⟨sl, q⟩ := F.slot b o e; ⟨_, q⟩, fun _ _ e => e, fun _ _ _ e => e, fun b ps e => ⟨#[], by rw [e]; simp⟩⟩ (fun b u e => ?_) F.bare fun b hb => ?_
  · rw [List.mem_append]; exact fun z => z.elim hx hb
  · have nofr : ∀ c v, H c = some v → c ∉ Ls ++ L2.frs X.stack := fun c v hc z => by
      rcases List.mem_append.mp z with z | z
      · rw [(y c z).2.2.2.2] at hc; cases hc
      · rw [I.stkFree c z] at hc; cases hc
    refine (I.hok b u e).stay (fun c v hc q => F.keep c v q ?_) (fun _ q => q) fun _ _ q => q
    rcases hc with z | z
    · rw [z]; exact nofr b u e
    · exact nofr c _ z
  · obtain ⟨h1, h2, h3, h4, _⟩ := y b hb
    exact ⟨.inr h1, h2, h3, fun p hp => h4 p (by simpa using hp)⟩
theorem _root_.L2.Inv.frameIn (I : Inv X pins σ H s) (hst : X.stack = X.env :: X.outer) : s.heap.FunFrames X.base (X.env :: X.outer) := hst ▸ I.stack
theorem pass_own (hst : X.stack = X.env :: X.outer) (hfr : X.env.frame = some X.env.locals) : PassesOwn (model X.prog X.w) X.A X.env (ExS X E) := by
  rintro e s' ⟨x, C, s1, σ, H, Ls, rfl, I, y, F, q⟩
  refine fl_note (by rw [I.ok.frames, hst]) (I.frameIn hst) hfr (fun b hb => by rw [hst]; exact List.mem_append_right _ hb) F fun s2 F2 => ?_
  unfold cameBackBy
  obtain ⟨oe, vs, he, hc, hd, hsz, hT⟩ := id F2.there
  rcases hT with ⟨_, hz⟩ | ⟨T, oT, ts, z, h1, hr⟩
  · cases hz
  · refine wpAny_bind (wpAny_field he hd h1 ?_)
    rw [if_neg (by simp)]
    rw [hfr]
    exact fl_set F2 fun s3 F3 => ⟨x, C, s1, σ, H, Ls, rfl, I, y, F3.imp fun o ho => .inr (.inr ho), q⟩
def PassesAt (CX : CXT) (X : Cx) (σ : St) (E : XK) : Prop := ∀ (pins : List (Addr × Obj)) (H : Hp) (s : Shared) (e : Value) (s' : Shared), Inv X pins σ H s → CX X.stack H s E e s' → X.xe e s'
theorem pass_call : PassesAt (CXo X.prog X.w X.K) (X.wish (ExS X E)) σ (EX X E σ) := by
  rintro pins H s e s' I ⟨x, C, s1, H', Ls, rfl, os, bare, un, hok, hL, F, q⟩
  have I0 := I.unwish.nopins
  have I1 : Inv X [] σ H' s1 := I0.call' (s' := s1) (ch := []) os un hok bare fun b hb => by cases hb
  refine ⟨x, C, s1, σ, H', Ls, rfl, I1, fun b hb => ?_, F.imp fun o ho => .inr (.inl ho), q (tx_un I1.base)⟩
  obtain ⟨h1, h2⟩ := hL b hb
  refine ⟨Nat.le_trans I0.sz h1, fun z => ?_, fun y c hc z => ?_, fun p hp z => ?_, h2⟩
  · rw [z] at h1; exact absurd I0.lt (Nat.not_lt.mpr h1)
  · obtain ⟨v, o, ho, _⟩ := I0.cell y c hc
    have := Heap.lt_size ho
    rw [z] at this; exact absurd this (Nat.not_lt.mpr h1)
  · have := Heap.lt_size (I0.pin p (List.mem_append_left _ hp)).1
    rw [z] at this; exact absurd this (Nat.not_lt.mpr h1)
theorem exs_made {h' : Heap} {e : Addr} {c : Addr} {args : List Value} {t' : Nat} (I : Inv X pins σ H s) (m : Heap.MadeExcOf s.heap h' e (.ref c) args) (q : E σ (.ref c) none H) : ExS X E (.ref e) { s with heap := h', toks := t' } := by
  obtain ⟨t, ht, _⟩ := m.there
  have y : Young X H [] := fun b hb => absurd hb (by simp)
  exact ⟨e, c, s, σ, H, [], rfl, I.nopins, y, ⟨rfl, I.bare, m.new, fun b o e _ => m.keeps b o e, fun b o e => ⟨o.slots, m.keeps b o e⟩, _, _, ht, rfl, rfl, ⟨by simp, rfl, rfl⟩, .inl ⟨rfl, .inl rfl⟩⟩, q⟩
theorem PSs.wishes {W : Value → Shared → Prop} {st : List Stmt} {t : TS} (h : PSs (X.wish W) st t) (le : ∀ e s, W e s → X.xe e s) : PSs X st t := fun pins s σ H D I hw =>
  wpAny_mono (h pins s σ H D (I.wish _) hw) (fun _ _ q => q.unwish) le
end
section
variable {P : Program} {w : World} {K : PySem.W.Frag} {mg : Str → Option Value} {base : Heap} {N : List Str} {qual : Str} {scope : Scope} {f : Addr} {cd : Value} {A : Around} {outer : List Env} {s : Shared} {H : Hp} {E : XK}
theorem leave_def : ∀ e s', ExS (cxOf (CXo P w K) P w K mg base N qual scope f cd A outer s H E) (fun _ => E) e s' → (cxOf (CXo P w K) P w K mg base N qual scope f cd A outer s H E).xe e s' := by
  rintro e s' ⟨x, C, s1, σ, H', Ls, rfl, I, y, F, q⟩
  show wpAny _ _ (leaving _ _) _ _ _
  unfold leaving
  have hst : (cxOf (CXo P w K) P w K mg base N qual scope f cd A outer s H E).stack = (cxOf (CXo P w K) P w K mg base N qual scope f cd A outer s H E).env :: outer := rfl
  refine wpAny_bind (fl_note (I.ok.frames.trans rfl) (I.frameIn hst) rfl (fun b hb => List.mem_append_right _ hb) F fun s2 F2 => ?_)
  refine fl_set (f := none) F2 fun s3 F3 => ?_
  refine ⟨x, C, s1, H', Ls ++ [s.heap.objs.size], rfl, I.os, I.bare, I.base, I.hok, fun b hb => ?_, ?_, q⟩
  · rcases List.mem_append.mp hb with z | z
    · exact ⟨(y b z).1, (y b z).2.2.2.2⟩
    · rw [List.mem_singleton.mp z]; exact ⟨Nat.le_refl _, I.free⟩
  · refine Flown.frs F3 fun b hb => ?_
    rcases List.mem_append.mp hb with z | z
    · exact List.mem_append_left _ (List.mem_append_left _ z)
    · rcases List.mem_cons.mp (show b ∈ s.heap.objs.size :: L2.frs outer from z) with z | z
      · rw [z]; exact List.mem_append_left _ (List.mem_append_right _ (by simp))
      · exact List.mem_append_right _ z
end
end L3
namespace L3
open PySem PySem.Spec L2
open PyProof.Rows hiding St
abbrev bmV : List Value := [.type "ValueError", .type "Exception", .type "BaseException", .type "object"]
def XCls (K : PySem.W.Frag) (C : Addr) : Prop := PySem.W.excIn K C bmV "ValueError.__new__" = true
theorem xcls_own {K : PySem.W.Frag} {h₀ : Heap} {x : Str} {C : Addr} {mg : Str → Option Value} (X : K.In h₀) (e : mg x = some (.ref C)) (q : XCls K C) : OwnCls x C bmV "ValueError.__new__" mg h₀ := by
  refine ⟨e, ?_⟩
  unfold XCls PySem.W.excIn at q
  split at q
  · rename_i dd cd sl ho
    split at q
    · rename_i C' bm k0 k1 k2 k3 n k5 hm hs
      simp only [Bool.and_eq_true, beq_iff_eq, Bool.not_eq_true'] at q
      obtain ⟨⟨⟨⟨⟨rfl, rfl⟩, hdel⟩, ht⟩, hok⟩, hni⟩ := q
      obtain ⟨nm, bs, mro, ns, qn, hd, sn, sub, ab, col, del⟩ := cd
      dsimp only at hm hdel hok hni
      subst hm hdel
      have hsl : sl = #[k0, k1, k2, k3, some (.builtin "ValueError.__new__"), k5] := by
        obtain ⟨l⟩ := sl
        simp only at hs
        rw [hs]
      subst hsl
      exact ⟨bm, ns, nm, qn, bs, hd, sn, sub, ab, col, dd, k0, k1, k2, k3, k5, _, X _ _ ho, .of_isNs (PySem.W.isNs_of_in X hok), PySem.W.nsMap_none_of_in X hok hni, PySem.W.tail_of_in X ht⟩
    · cases q
  · cases q
def tRaise (X : Cx) (E : St → XK) (C : Addr) (t : TA) : TS := fun D σ H => t σ H fun vs H1 => vs.length ≤ sizeLine ∧ EX X E σ (.ref C) none H1
section
variable {X : Cx} {E : St → XK} {x : Str} {C : Addr} {np cpos pos : Pos} {e₀ : Expr} {rest : List Expr} {t : TA}
theorem ps_raise (hx : Gl X x) (hm : X.mg x = some (.ref C)) (q : XCls X.K C) (hc : X.calm = true) (ha : PA (X.wish (ExS X E)) (e₀ :: rest) t)
    (he : starEach (e₀ :: rest) X.env = (false, eval e₀ X.env) :: starEach rest X.env := by rfl) (hpl : (backTo cpos (starEach rest X.env)).any (·.1) = false := by rfl) (hdb : (x == ("__debug__" : Str)) = false := by decide) :
    PS (X.wish (ExS X E)) (.Raise (some (.Call (.Name x np) (e₀ :: rest) [] cpos)) none pos) (tRaise X E C t) := by
  intro pins s σ H D I h
  have O := xcls_own (x := x) I.ok.mod.kin hm q
  obtain ⟨tl, N, nm, qn, bs, hdct, sn, sub, ab, col, dd, k0, k1, k2, k3, k5, mN, hC, hN, hni, T⟩ := O.obj
  refine wpAny_Raise_call_subT (C := C) (nm := nm) (q := qn) (N := N) (bs := bs) (bm := tl) (hdct := hdct) (sn := sn) (sub := sub) (ab := ab) (col := col) (dd := dd) (k0 := k0) (k1 := k1) (k2 := k2) (k3 := k3) (k5 := k5)
    PySem.F.excBase_ValueError (mN := mN) (T.hasType PySem.F.excBase_ValueError.hasBase) (I.ok.hd hc) (by rw [he]; show (false || (backTo cpos (starEach rest X.env)).any (·.1)) = false; rw [hpl]; rfl) hni (ld_glob I hx hm ⟨rfl, ?_⟩ hdb)
  have h2 := ha cpos pins s σ H _ I h
  show wpAny _ _ (evalArgs (.ref C) true (backTo cpos (starEach (e₀ :: rest) X.env)) []) _ _ _
  have h3 : wpAny (model X.prog X.w) X.A (spliced (backTo cpos (starEach (e₀ :: rest) X.env))) (AP (X.wish (ExS X E)) pins σ fun vs H1 => vs.length ≤ sizeLine ∧ EX X E σ (.ref C) none H1) (ExS X E) s := h2
  rw [he] at h3 ⊢
  refine Calls.evalArgs_plain (wpAny_mono h3 (fun us s2 ⟨vs, H1, I1, r, hl, q1⟩ => ⟨rfl, by rw [← r.length]; exact hl, I1.bk _ _ hC, hN.keeps I1.bk, T.keeps I1.bk, fun h' e m => ?_⟩) fun _ _ y => y)
  exact exs_made (t' := s2.toks) I1.unwish m (q1 (tx_un I1.base))
end
section
variable {X : Cx} {CX : CXT} {k : Nat} {f C : Addr} {fd : FuncData} {ps : List Str} {sp : Sp} {E : St → XK} {x : Str} {p pos : Pos} {e : Expr} {es : List Expr} {t : TA}
theorem run_fnX {pins : List (Addr × Obj)} {σ : St} {H : Hp} {s : Shared} {Q : VK} {us : List Value} {vs : List V} {Ex : XK} (F : FnOk X.prog X.w X.K X.mg X.base CX k f fd ps sp) (hr : Room k X.A) (hb : Binds X.K fd ps []) (hx : PassesAt CX X σ Ex)
    (I : Inv X pins σ H s) (r : Vals vs us) (h : sp vs H Q Ex) : wpAny (model X.prog X.w) X.A (call (.ref f) us) (EP X pins σ Q) X.xe s := by
  have hl : (us ++ []).length = ps.length := by rw [List.append_nil, ← r.length]; exact F.len _ _ _ _ h
  have hbs := hb s us I.kIn hl
  rw [List.append_nil] at hbs
  refine wpAny_call (codeAny_mono (F.run X.A X.stack s H ⟨us, []⟩ us vs Q Ex hr I.env0 hbs r h) fun r s' hq => ?_)
  cases r with
  | error e => exact hx pins H s e s' I hq
  | ok fl =>
    cases fl with
    | ret u => exact I.after hq
    | next => exact False.elim hq
    | brk => exact False.elim hq
    | cont => exact False.elim hq
def tCallX (X : Cx) (E : St → XK) (sp : Sp) (t : TA) : TE := fun σ H Q => t σ H fun vs H1 => sp vs H1 Q (EX X E σ)
theorem pe_callX (F : FnOk X.prog X.w X.K X.mg X.base (CXo X.prog X.w X.K) k f fd ps sp) (hr : Room k X.A) (hg : Gl X x) (hm : X.mg x = some (.ref f)) (hk : PySem.W.keepIn X.K (.ref f) = true) (hb : Binds X.K fd ps [])
    (ha : PA (X.wish (ExS X E)) (e :: es) t) (hdb : (x == ("__debug__" : Str)) = false := by decide) (he : starEach (e :: es) X.env = (false, eval e X.env) :: starEach es X.env := by rfl) (hpl : (backTo pos (starEach es X.env)).any (·.1) = false := by rfl) :
    PE (X.wish (ExS X E)) (.Call (.Name x p) (e :: es) [] pos) (tCallX X E sp t) := by
  intro pins s σ H Q I h
  refine wpAny_Call_Name_kw (ld_glob I hg hm ?_ hdb)
  refine PySem.W.callWith_K (h₀ := X.base) I.ok.mod.kin hk (thn (ha pos pins s σ H _ I h) fun us s1 ⟨vs, H1, I1, r, q⟩ => ⟨I1.kIn, ?_⟩) he hpl
  exact run_fnX (X := X.wish (ExS X E)) F hr hb pass_call I1 r q
end
def XLe (X : Cx) (E2 : St2 → XK2) (E : St → XK) : Prop := ∀ (σ : St) (τ : St2) c xd H' fs G', TX X.H₀ H' → SimS X.K H' τ σ → Sim X.K G' H' → XRel X.K H' xd fs → E2 τ c fs G' → E σ c xd H'
theorem xle_def {X : Cx} {E2 : XK2} {E : XK} (h : ContX X.K X.H₀ E2 E) : XLe X (fun _ => E2) fun _ => E := fun _ _ c xd H' fs G' tx _ sg xr q => h c xd H' fs G' tx sg xr q
def uRaise (E : St2 → XK2) (C : Addr) (t : TA2) : TS2 := fun D τ G => t τ G fun ws G1 => ws.length ≤ sizeLine ∧ E τ (.ref C) [] G1
def uCallX (E : St2 → XK2) (sp : Sp2) (t : TA2) : TE2 := fun τ G Q => t τ G fun ws G1 => sp ws G1 Q (E τ)
section
variable {X : Cx} {E : St → XK} {E2 : St2 → XK2} {x : Str} {C : Addr} {np p cpos pos : Pos} {e₀ e : Expr} {es rest : List Expr} {t : TA2} {k : Nat} {f : Addr} {fd : FuncData} {ps : List Str} {sp : Sp2}
theorem s_raise (hE : XLe X E2 E) (hx : Gl X x) (hm : X.mg x = some (.ref C)) (q : XCls X.K C) (hc : X.calm = true) (ha : PA2 (X.wish (ExS X E)) (e₀ :: rest) t)
    (he : starEach (e₀ :: rest) X.env = (false, eval e₀ X.env) :: starEach rest X.env := by rfl) (hpl : (backTo cpos (starEach rest X.env)).any (·.1) = false := by rfl) (hdb : (x == ("__debug__" : Str)) = false := by decide) :
    PS2 (X.wish (ExS X E)) (.Raise (some (.Call (.Name x np) (e₀ :: rest) [] cpos)) none pos) (uRaise E2 C t) := by
  simp only [PA2, PS2] at *
  exact (PS.imp (ps_raise hx hm q hc ha he hpl hdb) fun D σ H ⟨τ, G, D2, hs, hg, ht, le⟩ => ⟨τ, G, _, hs, hg, ht, fun vs H1 ws G1 t1 s1 r1 h1 => ⟨by rw [← r1.length]; exact h1.1, fun tx => hE σ τ _ _ _ _ _ tx (hs.mono t1) s1 (by trivial) h1.2⟩⟩)
theorem e_callX (hE : XLe X E2 E) (F : FnOk X.prog X.w X.K X.mg X.base (CXo X.prog X.w X.K) k f fd ps (lowSp X.K sp)) (hr : Room k X.A) (hg : Gl X x) (hm : X.mg x = some (.ref f)) (hk : PySem.W.keepIn X.K (.ref f) = true) (hb : Binds X.K fd ps [])
    (ha : PA2 (X.wish (ExS X E)) (e :: es) t) (hdb : (x == ("__debug__" : Str)) = false := by decide) (he : starEach (e :: es) X.env = (false, eval e X.env) :: starEach es X.env := by rfl) (hpl : (backTo pos (starEach es X.env)).any (·.1) = false := by rfl) :
    PE2 (X.wish (ExS X E)) (.Call (.Name x p) (e :: es) [] pos) (uCallX E2 sp t) := by
  simp only [PE2, PA2] at *
  exact (PE.imp (pe_callX F hr hg hm hk hb ha hdb he hpl) fun σ H Q ⟨τ, G, Q2, hs, hg, ht, hc⟩ => ⟨τ, G, _, hs, hg, ht, fun vs H1 ws G1 t1 s1 r1 h1 =>
    ⟨ws, G1, Q2, E2 τ, r1, s1, h1, hc.mono t1, fun c xd H' fs G' t2 sg xr q tx => hE σ τ c xd H' fs G' tx (hs.mono (t1.trans t2)) sg xr q⟩⟩)
end
section
variable {P : Program} {w : World} {K : PySem.W.Frag} {mg : Str → Option Value} {base : Heap}
theorem fun_okX {x qual : Str} {st : Stmt} {f : Addr} {fd : FuncData} {N ps : List Str} {k : Nat} {sp : Sp2} (F : Fun K x qual st f fd) (S : FnScope N ps (defScope st)) (len : ∀ ws G Q E, sp ws G Q E → ws.length = ps.length)
    (hbody : ∀ (cdv : Value) (A : Around) (outer : List Env) (s : Shared) (H : Hp) (E : XK), Room k (A.deeper (envOfC qual (defScope st) s.heap.objs.size f cdv)) → ∀ (ws : List W) (G : WH) (Q : VK2) (E2 : XK2), ContX K H E2 E → sp ws G Q E2 →
      ∃ t, PSs2 ((cxOf (CXo P w K) P w K mg base N qual (defScope st) f cdv A outer s H E).wish (ExS (cxOf (CXo P w K) P w K mg base N qual (defScope st) f cdv A outer s H E) fun _ => E)) (defBody st) t ∧ t (ends Q) (start2 N ws) G) :
    FnOk P w K mg base (CXo P w K) (k + 1) f fd ps (lowSp K sp) := by
  simp only [PSs2] at *
  obtain ⟨oc, od, kV, doc, pm, an, cdv, ct, osl, rfl, lk, hcd⟩ := F.ex
  refine fn_of lk hcd S (fun vs H Q E ⟨ws, G, Q2, E2, r, s, h, _⟩ => by rw [← r.length]; exact len _ _ _ _ h) fun A outer s H vs Q E hr ⟨ws, G, Q2, E2, r, hg, h, hc, hx⟩ => ?_
  obtain ⟨t, ht, q⟩ := hbody cdv A outer s H E hr ws G Q2 E2 hx h
  refine ⟨_, PSs.wishes ht leave_def, start2 N ws, G, _, r.begin, hg, q, ⟨fun σ' H' τ' G' t1 s1 g1 ⟨G0, le, h1⟩ => hc _ H' _ G0 t1 (g1.less le) .non h1, fun v H' w' G' t1 s1 r1 ⟨G0, le, h1⟩ => hc v H' w' G0 t1 (s1.less le) r1 h1, fun _ _ _ _ _ _ _ h => h, fun _ _ _ _ _ _ _ h => h⟩⟩
end
end L3
namespace L3
open PySem PySem.Spec L2
open PyProof.Rows hiding St
section
variable {X : Cx} {k : Nat} {f C : Addr} {fd : FuncData} {ps : List Str} {sp : Sp} {E : St → XK} {x : Str} {p pos : Pos} {e : Expr} {es : List Expr} {t : TA}
theorem run_makeX {CX : CXT} {pins : List (Addr × Obj)} {σ : St} {H : Hp} {s : Shared} {Q : VK} {us : List Value} {vs : List V} {Ex : XK} (M : Mk X.K C f) (F : FnOk X.prog X.w X.K X.mg X.base CX k f fd ps sp) (hr : Room (k + 1) X.A) (hb : Binds X.K fd ps [])
    (hx : PassesAt CX X σ Ex) (I : Inv X pins σ H s) (r : Vals vs us)
    (h : ∀ x dx, H x = none → H dx = none → dx ≠ x → sp (.ref x :: vs) (upd (upd H dx (.own x)) x (.ins C dx [])) (fun v H2 => v = .non ∧ Q (.ref x) H2) Ex) :
    wpAny (model X.prog X.w) X.A (call (.ref C) us) (EP X pins σ Q) X.xe s := by
  have hq := h (s.heap.objs.size + 1) s.heap.objs.size (I.hok.fresh (Nat.le_succ _)) (I.hok.fresh (Nat.le_refl _)) (Nat.ne_of_lt (Nat.lt_succ_self _))
  have I2 := Inv.made (C := C) I
  have r2 : Vals (V.ref (s.heap.objs.size + 1) :: vs) (Value.ref (s.heap.objs.size + 1) :: us) := .cons rfl r
  have hl : ((Value.ref (s.heap.objs.size + 1) :: us) ++ []).length = ps.length := by
    have e := r2.length
    rw [F.len _ _ _ _ hq] at e
    rw [List.append_nil]
    exact e.symm
  have hbs := hb _ (Value.ref (s.heap.objs.size + 1) :: us) I2.kIn hl
  rw [List.append_nil] at hbs
  refine wpAny_call (make_map (f := f) I.kIn M.makes M.init (beq_iff_eq.mp M.fn) (codeAny_mono (F.run _ X.stack _ _ ⟨Value.ref (s.heap.objs.size + 1) :: us, []⟩ (Value.ref (s.heap.objs.size + 1) :: us) _ _ Ex (hr.make C us [])
    (I2.env0.make C us []) hbs r2 hq) fun r s' hq' => ?_))
  cases r with
  | error e => exact hx pins _ _ e s' I2 hq'
  | ok fl =>
    cases fl with
    | ret u =>
      obtain ⟨v, H', I3, rv, ev, q3⟩ := I2.after hq'
      subst ev
      exact ⟨rv, ⟨V.ref (s.heap.objs.size + 1), H', I3, rfl, q3⟩⟩
    | next => exact False.elim hq'
    | brk => exact False.elim hq'
    | cont => exact False.elim hq'
def tMakeX (X : Cx) (E : St → XK) (C : Addr) (sp : Sp) (t : TA) : TE := fun σ H Q => t σ H fun vs H1 => ∀ x dx, H1 x = none → H1 dx = none → dx ≠ x →
  sp (.ref x :: vs) (upd (upd H1 dx (.own x)) x (.ins C dx [])) (fun v H2 => v = .non ∧ Q (.ref x) H2) (EX X E σ)
theorem pe_makeX (M : Mk X.K C f) (F : FnOk X.prog X.w X.K X.mg X.base (CXo X.prog X.w X.K) k f fd ps sp) (hr : Room (k + 1) X.A) (hg : Gl X x) (hm : X.mg x = some (.ref C)) (hb : Binds X.K fd ps [])
    (ha : PA (X.wish (ExS X E)) (e :: es) t) (hdb : (x == ("__debug__" : Str)) = false := by decide) (he : starEach (e :: es) X.env = (false, eval e X.env) :: starEach es X.env := by rfl) (hpl : (backTo pos (starEach es X.env)).any (·.1) = false := by rfl) :
    PE (X.wish (ExS X E)) (.Call (.Name x p) (e :: es) [] pos) (tMakeX X E C sp t) := by
  intro pins s σ H Q I h
  refine wpAny_Call_Name_kw (ld_glob I hg hm ?_ hdb)
  refine PySem.W.callWith_K (h₀ := X.base) I.ok.mod.kin M.kp (thn (ha pos pins s σ H _ I h) fun us s1 ⟨vs, H1, I1, r, q⟩ => ⟨I1.kIn, ?_⟩) he hpl
  exact run_makeX (X := X.wish (ExS X E)) M F hr hb pass_call I1 r q
end
def uMakeX (E : St2 → XK2) (C : Addr) (sp : Sp2) (t : TA2) : TE2 := fun τ G Q => t τ G fun ws G1 => ∀ x, G1 x = none → sp (.ref x :: ws) (gup G1 x (.ins C [])) (fun w G2 => w = .non ∧ Q (.ref x) G2) (E τ)
section
variable {X : Cx} {k : Nat} {f C : Addr} {fd : FuncData} {ps : List Str} {sp : Sp2} {E : St → XK} {E2 : St2 → XK2} {x : Str} {p pos : Pos} {e : Expr} {es : List Expr} {t : TA2}
theorem e_makeX (hE : XLe X E2 E) (M : Mk X.K C f) (F : FnOk X.prog X.w X.K X.mg X.base (CXo X.prog X.w X.K) k f fd ps (lowSp X.K sp)) (hr : Room (k + 1) X.A) (hg : Gl X x) (hm : X.mg x = some (.ref C)) (hb : Binds X.K fd ps [])
    (ha : PA2 (X.wish (ExS X E)) (e :: es) t) (hdb : (x == ("__debug__" : Str)) = false := by decide) (he : starEach (e :: es) X.env = (false, eval e X.env) :: starEach es X.env := by rfl) (hpl : (backTo pos (starEach es X.env)).any (·.1) = false := by rfl) :
    PE2 (X.wish (ExS X E)) (.Call (.Name x p) (e :: es) [] pos) (uMakeX E2 C sp t) := by
  simp only [PE2, PA2] at *
  exact (PE.imp (pe_makeX M F hr hg hm hb ha hdb he hpl) fun σ H Q ⟨τ, G, Q2, hs, hg, ht, hc⟩ => ⟨τ, G, _, hs, hg, ht, fun vs H1 ws G1 t1 s1 r1 h1 x dx nx nd ne => by
    have nx' : upd H1 dx (.own x) x = none := by rw [upd_ne (Ne.symm ne)]; exact nx
    have t2 : TX H1 (upd (upd H1 dx (.own x)) x (.ins C dx [])) := (TX.fresh nd).trans (.fresh nx')
    refine ⟨_, _, _, E2 τ, .cons (.ref x) (r1.mono t2), (s1.fresh nd).laid nx' (.i upd_same .nil), h1 x (s1.no nx), fun v H2 w G2 t3 s3 r3 h3 => ?_, fun c xd H' fs G' t3 sg xr q tx => hE σ τ c xd H' fs G' tx (hs.mono ((t1.trans t2).trans t3)) sg xr q⟩
    obtain ⟨e, q⟩ := h3
    subst e
    cases r3
    exact ⟨rfl, hc _ H2 _ G2 ((t1.trans t2).trans t3) s3 (.ref x) q⟩⟩)
end
section
variable {M : Model} {A : Around} {E : Value → Shared → Prop}
variable {nm q nm' q' : Str} {C N D N' : Addr} {bs bm bs' bm' : List Value} {hdct hdct' : Bool} {sn sn' : List Str} {sub sub' : List Value} {ab ab' : Bool} {col col' : Option Bool} {dd dd' : Option Addr} {k0 k1 k2 k3 k5 l0 l1 l2 l3 l5 : Option Value} {newId newId' : String}
theorem excMatches_own {h : Heap} {g : Array GenState} {d : Drawn} {t : Nat} {os : OsState} {e : Addr} {oe : Obj} {Q : Bool → Shared → Prop}
    (hC : h.get? C = some (excClassObj nm q C N bs bm hdct sn sub ab col dd k0 k1 k2 k3 k5 newId)) (hD : h.get? D = some (excClassObj nm' q' D N' bs' bm' hdct' sn' sub' ab' col' dd' l0 l1 l2 l3 l5 newId'))
    (he : h.get? e = some oe) (hcls : oe.cls = .ref C) (hbase : bm'.contains (.type "BaseException") = true)
    (hq : Q ((Value.ref C :: bm).contains (.ref D)) ⟨h, g, d, t, os⟩) : wpAny M A (excMatches (.ref e) (.ref D)) Q E ⟨h, g, d, t, os⟩ := by
  have hcB : (Value.ref D :: bm').contains (.type "BaseException") = true := by rw [List.contains_cons, hbase, Bool.or_true]
  have f := tc_notTuple
  unfold excMatches
  repeat (first | (with_reducible refine wpAny_loadPart_at he ?_; rw [hcls]) | with_reducible refine wpAny_loadPart_at hD ?_ | (with_reducible refine wpAny_isSubtype_exc hD ?_; rw [hcB]) | (with_reducible refine wpAny_isSubtype_exc hC ?_) | wp_step)
  cases hb : (Value.ref C :: bm).contains (.ref D) <;> (rw [hb] at hq; wp_walk; exact hq)
end
end L3
namespace L3
open PySem PySem.Spec L2
open PyProof.Rows hiding St
section
variable {X : Cx} {pins : List (Addr × Obj)} {σ : St} {H : Hp} {s : Shared}
theorem name_goes {M : Model} {A : Around} {E : Value → Shared → Prop} {i : Nat} {n : Str} {pos : Pos} {Q : Unit → Shared → Prop} (I : Inv X pins σ H s) (hN : X.N.Nodup) (hi : X.N[i]? = some n) (hl : X.env.scope.names.lookup n = some .local)
    (h : ∀ s', Inv X pins (σ.set i none) H s' → Q () s') : wpAny M A (do bindName X.env n .none; unbindBehindTheSuite X.env n pos) Q E s := by
  have hp : (X.env.scope.kind == .class || (X.env.scope.kind == .module && X.env.locals != X.env.globals)) = false := by rw [I.ok.kind]; rfl
  have hk : X.env.kindOf n = some .local := hl
  refine wpAny_bind (wpAny_bindName (store_ok (v := .non) (u := .none) I hN hi (.inl hl) rfl (fun s1 I1 => ?_) (.inr hl)))
  unfold unbindBehindTheSuite
  refine wpAny_onRaise ?_
  unfold unbindName
  refine wpAny_bind (wpAny_point (wpAny_bind ?_))
  unfold deleteName
  simp only [hk, hp]
  rw [if_neg (by decide)]
  obtain ⟨m, hn, hlv⟩ := id I1.loc
  have hiσ : i < σ.length := by rw [I.len]; exact (List.getElem?_eq_some_iff.mp hi).1
  have hm : ∃ u, m n = some u := by
    obtain ⟨u, _, q⟩ := hlv i n .non hi (by rw [List.getElem?_set_self hiσ]) (.inl hl)
    rcases q with ⟨_, e⟩ | ⟨k, _⟩
    · exact ⟨u, e⟩
    · rcases k with k | k <;> (rw [hk] at k; cases k)
  obtain ⟨u, hu⟩ := hm
  refine wpAny_bind (wpAny_nsDel_keeps hn fun h₂ v hn₂ hs => ?_)
  rw [hu]
  simp only [if_true, Option.isSome_some, Bool.not_true, Bool.false_eq_true, if_false]
  refine wpAny_pure (wpAny_point (h _ ?_))
  have cne := I1.cne
  obtain ⟨oL, _, _, hoL, _⟩ := id hn
  refine ⟨I1.ok, I1.os, I1.bare, ⟨fun b o e n hb hx => ?_, fun b o e n hb hx => ?_, I1.base.free, fun b o e hx => ?_, I1.base.tups, I1.base.frzs, I1.base.tbls⟩, ⟨_, hn₂, fun j y v' e1 e2 e3 => ?_⟩, fun y c e => ?_, I1.free, I1.freeC, fun p hp => ?_, fun b ob e => ?_, by simpa using I.len⟩
  · exact (hs.2 b (Nat.ne_of_lt (Nat.lt_of_lt_of_le (Heap.lt_size e) I1.ok.above))).trans (I1.base.keep b o e n hb hx)
  · obtain ⟨sl, e1⟩ := I1.base.slot b o e n hb hx
    exact ⟨sl, (hs.2 b (Nat.ne_of_lt (Nat.lt_of_lt_of_le (Heap.lt_size e) I1.ok.above))).trans e1⟩
  · obtain ⟨o', e1⟩ := I1.base.there b o e hx
    exact ⟨o', (hs.2 b (Nat.ne_of_lt (Nat.lt_of_lt_of_le (Heap.lt_size e) I1.ok.above))).trans e1⟩
  · by_cases hj : j = i
    · subst hj
      rw [List.getElem?_set_self hiσ] at e2
      cases e2
    · rw [List.getElem?_set_ne (Ne.symm hj)] at e2
      obtain ⟨u', r', q⟩ := hlv j y v' e1 (by rw [List.getElem?_set_ne (Ne.symm hj)]; exact e2) e3
      refine ⟨u', r', ?_⟩
      rcases q with ⟨k, e⟩ | ⟨k, c, e, z⟩
      · refine .inl ⟨k, ?_⟩
        have : y ≠ n := fun e => hj (nodup_ix hN e1 (e ▸ hi))
        simp [this, e]
      · exact .inr ⟨k, c, e, z.sameBut hs (cne y c e)⟩
  · obtain ⟨w', z⟩ := I1.cell y c e
    exact ⟨w', z.sameBut hs (cne y c e)⟩
  · obtain ⟨e, n, ne, nf, d⟩ := I1.pin p hp
    exact ⟨(hs.2 p.1 ne).trans e, n, ne, nf, d⟩
  · refine (I1.hok b ob e).stay (fun c w' hc q => (hs.2 c ?_).trans q) (fun _ q => q) fun _ _ q => q
    rintro rfl
    rcases hc with hc | hc
    · rw [← hc, I1.free] at e; cases e
    · rw [I1.free] at hc; cases hc
end
end L3
namespace L3
open PySem PySem.Spec L2
open PyProof.Rows hiding St
abbrev _root_.L2.Cx.pinned (X : Cx) (pn : List (Addr × Obj)) : Cx := { X with pn := pn }
abbrev _root_.L2.Cx.caught (X : Cx) (x : Addr) (ox : Obj) : Cx := { X with A := X.A.mark (some (.ref x)), calm := false, pn := (x, ox) :: X.pn, xe := fun _ _ => False }
section
variable {X : Cx} {pins pn : List (Addr × Obj)} {σ : St} {H : Hp} {s : Shared} {x : Addr} {ox : Obj}
theorem _root_.L2.Cx.Ok.pinned (ok : X.Ok) (pn : List (Addr × Obj)) : (X.pinned pn).Ok :=
  ⟨ok.mod, ok.kind, ok.glob, ok.blt, ok.above, ok.inj, ok.has, ok.cab, ok.hd, ok.frames, ok.stk, ok.exf, ok.bs, ok.bsz, ok.noex, ok.exfs, ok.funs, ok.frf⟩
theorem _root_.L2.Cx.Ok.caught (ok : X.Ok) (x : Addr) (ox : Obj) : (X.caught x ox).Ok :=
  ⟨ok.mod, ok.kind, ok.glob, ok.blt, ok.above, ok.inj, ok.has, ok.cab, (fun h => nomatch h), ok.frames, ok.stk, ok.exf, ok.bs, ok.bsz, ok.noex, ok.exfs, ok.funs, ok.frf⟩
theorem inv_pinned (I : Inv X pins σ H s) : Inv (X.pinned (X.pn ++ pins)) [] σ H s :=
  ⟨I.ok.pinned _, I.os, I.bare, I.base, I.loc, I.cell, I.free, I.freeC, fun p hp => I.pin p (by simpa using hp), I.hok, I.len⟩
theorem inv_unpinned (ok : X.Ok) (I : Inv (X.pinned (X.pn ++ pins)) [] σ H s) : Inv X pins σ H s :=
  ⟨ok, I.os, I.bare, I.base, I.loc, I.cell, I.free, I.freeC, fun p hp => I.pin p (by simpa using hp), I.hok, I.len⟩
theorem inv_caught (I : Inv X [] σ H s) (h1 : s.heap.get? x = some ox) (h2 : H x = none) (h3 : x ≠ X.env.locals) (h4 : x ∉ X.fs) (h5 : ∀ v, ox.data ≠ .cell v) : Inv (X.caught x ox) [] σ H s :=
  ⟨I.ok.caught x ox, I.os, I.bare, I.base, I.loc, I.cell, I.free, I.freeC, fun p hp => by
    have hp' : p = (x, ox) ∨ p ∈ X.pn := by simpa using hp
    rcases hp' with rfl | hp'
    · exact ⟨h1, h2, h3, h4, h5⟩
    · exact I.pin p (by simpa using hp'), I.hok, I.len⟩
theorem inv_uncaught (ok : X.Ok) (I : Inv (X.caught x ox) [] σ H s) : Inv X [] σ H s :=
  ⟨ok, I.os, I.bare, I.base, I.loc, I.cell, I.free, I.freeC, fun p hp => I.pin p (by
    have hp' : p ∈ X.pn := by simpa using hp
    show p ∈ ((x, ox) :: X.pn) ++ []
    simp [hp']), I.hok, I.len⟩
theorem _root_.L2.ObjOk.ob2 {P : Program} {w : World} {H : Hp} {h : Heap} {a : Addr} {o : HO} {K : PySem.W.Frag} (x : ObjOk P w K H h a o) : ∃ ob, h.get? a = some ob := by
  cases o with
  | lst xs => obtain ⟨_, _, _, _, e⟩ := x; exact ⟨_, e⟩
  | tup xs => obtain ⟨_, _, _, _, e, _⟩ := x; exact ⟨_, e⟩
  | dK kvs => obtain ⟨_, _, _, _, o, _, _, e, _⟩ := x; exact ⟨_, e⟩
  | dT kvs => obtain ⟨_, _, _, _, o, _, _, e, _⟩ := x; exact ⟨_, e⟩
  | set S n => obtain ⟨o, _, _, _, e, _⟩ := x; exact ⟨_, e⟩
  | ins C dx fs => obtain ⟨_, _, _, e, _⟩ := x; exact ⟨_, e⟩
  | own y => obtain ⟨_, e⟩ := x; exact ⟨_, e⟩
  | xd fs => obtain ⟨_, ⟨_, _, _, e, _⟩, _⟩ := x; exact ⟨_, e⟩
  | rng lo hi => obtain ⟨_, _, _, e⟩ := x; exact ⟨_, e⟩
  | frz ob u => obtain ⟨e, _⟩ := x; exact ⟨_, e⟩
  | tbl ps => exact ⟨_, (show h.get? a = some _ from x)⟩
  | met f y => exact ⟨_, (show h.get? a = some _ from x)⟩
  | ext φ => obtain ⟨_, ⟨_, e⟩, _⟩ := x; exact ⟨_, e⟩
def XOb (o : Obj) : Prop := ∃ vs, o.data = .fields vs ∧ vs[2]? = some .none ∧ o.dict = none
theorem inv_at {s1 s' : Shared} {Ls : List Addr} {C : Value} {st : Option Value → Prop} (I : Inv X [] σ H s1) (y : Young X H Ls) (F : Flown (Ls ++ frs X.stack) s1 s' x C st) :
    ∃ oe, s'.heap.get? x = some oe ∧ oe.cls = C ∧ XOb oe ∧ Inv (X.caught x oe) [] σ H s' := by
  obtain ⟨oe, vs, he, hc, hd, hv, _⟩ := id F.there
  have nx : ∀ b o, s1.heap.get? b = some o → x ≠ b := fun b o e z => by rw [← z, F.new] at e; cases e
  refine ⟨oe, he, hc, ⟨vs, hd, hv.2⟩, inv_caught (I.flown y F) he ?_ ?_ ?_ fun v z => by rw [hd] at z; cases z⟩
  · cases q : H x with
    | none => rfl
    | some u => obtain ⟨o, e⟩ := (I.hok x u q).ob2; rw [F.new] at e; cases e
  · obtain ⟨m, ⟨o, _, _, e, _⟩, _⟩ := I.loc; exact nx _ o e
  · intro hb; obtain ⟨_, o, ho, _⟩ := I.funs.mem hb; exact nx _ o ho rfl
end
def PF (X : Cx) (body : List Stmt) (t : TS2) : Prop := ∀ (pins : List (Addr × Obj)) (s : Shared) (σ : St) (H : Hp) (D : Ends) (D2 : Ends2) (τ : St2) (G : WH), Inv X pins σ H s → SimS X.K H τ σ → Sim X.K G H → t D2 τ G → EndsLe X.K X.H₀ D2 D →
  wpAny (model X.prog X.w) X.A (execs body X.env) (SP X pins D) X.xe s
def PF1 (X : Cx) (st : Stmt) (t : TS2) : Prop := ∀ (pins : List (Addr × Obj)) (s : Shared) (σ : St) (H : Hp) (D : Ends) (D2 : Ends2) (τ : St2) (G : WH), Inv X pins σ H s → SimS X.K H τ σ → Sim X.K G H → t D2 τ G → EndsLe X.K X.H₀ D2 D →
  wpAny (model X.prog X.w) X.A (exec st X.env) (SP X pins D) X.xe s
section
variable {X : Cx} {st : Stmt} {rest body : List Stmt} {t u : TS2}
theorem pf_of (h : PSs2 X body t) : PF X body t := by
  simp only [PSs2] at *
  exact (fun pins s σ H D D2 τ G I hs hg ht le => h pins s σ H D I ⟨τ, G, D2, hs, hg, ht, le.mono (tx_un I.base)⟩)
theorem pf1_of (h : PS2 X st t) : PF1 X st t := by
  simp only [PS2] at *
  exact (fun pins s σ H D D2 τ G I hs hg ht le => h pins s σ H D I ⟨τ, G, D2, hs, hg, ht, le.mono (tx_un I.base)⟩)
theorem pf_cons (h1 : PF1 X st t) (h2 : PF X rest u) : PF X (st :: rest) (uSeq t u) := by
  intro pins s σ H D D2 τ G I hs hg ht le
  refine wpAny_execs_cons (thn (h1 pins s σ H { D with nx := fun σ' H' => ∃ τ' G', SimS X.K H' τ' σ' ∧ Sim X.K G' H' ∧ u D2 τ' G' } { D2 with nx := u D2 } τ G I hs hg ht ⟨fun σ' H' τ' G' _ a b c => ⟨τ', G', a, b, c⟩, le.rt, le.bk, le.ct⟩) fun f s1 q => ?_)
  cases f with
  | next => obtain ⟨σ', H', I', τ', G', a, b, c⟩ := q; exact h2 pins s1 σ' H' D D2 τ' G' I' a b c le
  | brk => exact q
  | cont => exact q
  | ret u => exact q
end
end L3
namespace L3
open PySem PySem.Spec L2
open PyProof.Rows hiding St
def mroIn (K : PySem.W.Frag) (C : Addr) : List Value := match K.lookup C with
  | some o => (match o.data with
    | .cls cd => cd.mro
    | _ => [])
  | none => []
theorem xcls_obj {K : PySem.W.Frag} {h : Heap} {C : Addr} (X : K.In h) (q : XCls K C) : ∃ bm N nm qn bs hdct sn sub ab col dd k0 k1 k2 k3 k5, h.get? C = some (excClassObj nm qn C N bs bm hdct sn sub ab col dd k0 k1 k2 k3 k5 "ValueError.__new__") ∧ OwnTail h bmV bm ∧ mroIn K C = .ref C :: bm := by
  unfold XCls PySem.W.excIn at q
  split at q
  · rename_i dd cd sl ho
    split at q
    · rename_i C' bm k0 k1 k2 k3 n k5 hm hs
      simp only [Bool.and_eq_true, beq_iff_eq, Bool.not_eq_true'] at q
      obtain ⟨⟨⟨⟨⟨rfl, rfl⟩, hdel⟩, ht⟩, hok⟩, hni⟩ := q
      obtain ⟨nm, bs, mro, ns, qn, hd, sn, sub, ab, col, del⟩ := cd
      dsimp only at hm hdel hok hni
      subst hm hdel
      have hsl : sl = #[k0, k1, k2, k3, some (.builtin "ValueError.__new__"), k5] := by
        obtain ⟨l⟩ := sl
        simp only at hs
        rw [hs]
      subst hsl
      exact ⟨bm, ns, nm, qn, bs, hd, sn, sub, ab, col, dd, k0, k1, k2, k3, k5, X _ _ ho, PySem.W.tail_of_in X ht, by unfold mroIn; rw [ho]⟩
    · cases q
  · cases q
theorem fl_setN {M : Model} {A : Around} {E : Value → Shared → Prop} {s s1 : Shared} {fr : List Addr} {x : Addr} {C : Value} {Q : Unit → Shared → Prop} (F : Flown fr s1 s x C stN) (h : ∀ s', Flown fr s1 s' x C stN → Q () s') : wpAny M A (setFlight (.ref x) none) Q E s := by
  obtain ⟨os, bare, new, keep, slot, oe, vs, he, hc, hd, hsz, hT⟩ := id F
  rcases hT with ⟨h1, hz⟩ | ⟨T, oT, ts, z, h1, hTx, hT1, hT, hdT, h3, hz⟩
  · cases hz
  · unfold setFlight
    refine wpAny_bind (wpAny_field he hd h1 ?_)
    rw [if_pos (show (Value.ref T != Value.none) = true from by simp)]
    have h3s := (Array.getElem?_eq_some_iff.mp h3).1
    refine wpAny_setField hT hdT h3s (h _ ?_)
    have other : ∀ b, b ≠ T → (s.heap.update T (Obj.mapFields (·.setIfInBounds 3 ((none : Option Addr).elim Value.none fun f => rawInt f)))).get? b = s.heap.get? b := fun b hb => Heap.get?_update_other _ _ (Ne.symm hb)
    have nT : ∀ b o, s1.heap.get? b = some o → b ≠ T := fun b o e z => by rw [z, hT1] at e; cases e
    have hd₃ := Obj.data_mapFields hdT (·.setIfInBounds 3 ((none : Option Addr).elim Value.none fun f => rawInt f))
    refine ⟨os, bare, new, fun b o e hb => (other b (nT b o e)).trans (keep b o e hb), fun b o e => ?_, oe, vs, (other x (Ne.symm hTx)).trans he, hc, hd, hsz, .inr ⟨T, _, _, _, h1, hTx, hT1, Heap.get?_update_self _ hT (Obj.isFreed_of_fields hd₃), hd₃, by simp [h3s], rfl⟩⟩
    obtain ⟨sl, e1⟩ := slot b o e
    exact ⟨sl, (other b (nT b o e)).trans e1⟩
def behind2 (i : Nat) (D : Ends2) : Ends2 := ⟨fun τ G => D.nx (τ.set i none) G, D.rt, fun τ G => D.bk (τ.set i none) G, fun τ G => D.ct (τ.set i none) G⟩
def behindL (i : Nat) (D : Ends) : Ends := ⟨fun σ H => D.nx (σ.set i none) H, D.rt, fun σ H => D.bk (σ.set i none) H, fun σ H => D.ct (σ.set i none) H⟩
theorem SimS.drop {K : PySem.W.Frag} {H : Hp} {τ : St2} {σ : St} (s : SimS K H τ σ) (i : Nat) : SimS K H (τ.set i none) (σ.set i none) := by
  refine ⟨by simp [s.len], fun j u e => ?_⟩
  by_cases hj : j = i
  · subst hj
    have hl : j < τ.length := by
      have := (List.getElem?_eq_some_iff.mp e).1
      simpa using this
    rw [List.getElem?_set_self hl] at e
    cases e
  · rw [List.getElem?_set_ne (Ne.symm hj)] at e
    obtain ⟨x, a, b⟩ := s.at' j u e
    exact ⟨x, by rw [List.getElem?_set_ne (Ne.symm hj)]; exact a, b⟩
theorem behind_le {K : PySem.W.Frag} {H : Hp} {D2 : Ends2} {D : Ends} (le : EndsLe K H D2 D) (i : Nat) : EndsLe K H (behind2 i D2) (behindL i D) :=
  ⟨fun σ' H' τ' G' t a b c => le.nx _ H' _ G' t (a.drop i) b c, le.rt, fun σ' H' τ' G' t a b c => le.bk _ H' _ G' t (a.drop i) b c, fun σ' H' τ' G' t a b c => le.ct _ H' _ G' t (a.drop i) b c⟩
def uTryE (i : Nat) (okc : Addr → Prop) (th : Addr → Addr → TS2) (D2 : Ends2) : St2 → XK2 := fun τ1 c fs G1 => ∃ C, c = .ref C ∧ okc C ∧ ∀ x, G1 x = none → th C x (behind2 i D2) (τ1.set i (some (.ref x))) G1
def uTry (i : Nat) (okc : Addr → Prop) (tb : (St2 → XK2) → TS2) (th : Addr → Addr → TS2) : TS2 := fun D2 τ G => tb (uTryE i okc th D2) D2 τ G
section
variable {X : Cx} {body suite : List Stmt} {y n : Str} {np hpos pos : Pos} {b₀ : Stmt} {i : Nat} {Dc : Addr} {tb : (St2 → XK2) → TS2} {th : Addr → Addr → TS2} {okc : Addr → Prop}
theorem pf1_try (hN : X.N.Nodup) (hi : X.N[i]? = some n) (hl : X.env.scope.names.lookup n = some .local) (hg : Gl X y) (hm : X.mg y = some (.ref Dc)) (hD : XCls X.K Dc)
    (hok : ∀ C, okc C → XCls X.K C ∧ (mroIn X.K C).contains (.ref Dc) = true)
    (hb : ∀ (pn : List (Addr × Obj)) (E : St → XK) (E2 : St2 → XK2), XLe (X.pinned pn) E2 E → PSs2 ((X.pinned pn).wish (ExS (X.pinned pn) E)) body (tb E2))
    (hh : ∀ (pn : List (Addr × Obj)) (x : Addr) (ox : Obj) (C : Addr), okc C → ox.cls = .ref C → XOb ox → PSs2 ((X.pinned pn).caught x ox) (b₀ :: suite) (th C x))
    (hst : X.stack = X.env :: X.outer := by rfl) (hfr : X.env.frame = some X.env.locals := by rfl) (hdb : (y == ("__debug__" : Str)) = false := by decide) :
    PF1 X (.Try body [.ExceptHandler (some (.Name y np)) (some n) (b₀ :: suite) hpos] [] [] pos) (uTry i okc tb th) := by
  simp only [PSs2] at *
  intro pins s σ H D D2 τ G I hs hg' ht le
  have Ip := inv_pinned I
  refine wpAny_Try_except ?_
  have hb' := hb (X.pn ++ pins) (fun σ1 c xd H1 => ∃ τ1 G1 fs, SimS X.K H1 τ1 σ1 ∧ Sim X.K G1 H1 ∧ uTryE i okc th D2 τ1 c fs G1) _ (fun σ τ c xd H' fs G' _ a b _ q => ⟨τ, G', fs, a, b, q⟩) [] s σ H D (Ip.wish _) ⟨τ, G, D2, hs, hg', ht, le.mono (tx_un I.base)⟩
  refine wpAny_mono hb' (fun f s1 q => ?_) fun e s1 q => ?_
  · have q2 := SP.unwish q
    cases f with
    | next => obtain ⟨σ', H', I', q⟩ := q2; exact wpAny_execs_nil ⟨σ', H', inv_unpinned I.ok I', q⟩
    | brk => obtain ⟨σ', H', I', q⟩ := q2; exact ⟨σ', H', inv_unpinned I.ok I', q⟩
    | cont => obtain ⟨σ', H', I', q⟩ := q2; exact ⟨σ', H', inv_unpinned I.ok I', q⟩
    | ret u => obtain ⟨v, σ', H', I', r, q⟩ := q2; exact ⟨v, σ', H', inv_unpinned I.ok I', r, q⟩
  · obtain ⟨x, C, s1', σ1, H1, Ls, rfl, I1, yg, F, τ1, G1, fs, hs1, hg1, C', hC', ok, q⟩ := q
    cases hC'
    obtain ⟨hC, hsub⟩ := hok C ok
    refine fl_note (by rw [show (X.pinned (X.pn ++ pins)).A.frames = _ from I1.ok.frames]; exact congrArg some hst) (I1.frameIn hst) hfr (fun b hb => List.mem_append_right _ (by show b ∈ frs X.stack; rw [hst]; exact hb)) F fun s2 F2 => ?_
    refine fl_set (f := none) F2 fun s3 F3 => ?_
    have F3' : Flown (Ls ++ frs (X.pinned (X.pn ++ pins)).stack) s1' s3 x (.ref C) stN := F3
    obtain ⟨oe, he, hcls, _, Ic⟩ := inv_at I1 yg F3'
    refine wpAny_handleBy_cons (codeAny_handlers_test ?_) (by intro q; cases q)
    refine ld_glob (X := (X.pinned (X.pn ++ pins)).caught x oe) Ic hg hm ?_ hdb
    obtain ⟨bm, N, nm, qn, bs, hdct, sn, sub, ab, col, dd, k0, k1, k2, k3, k5, oC, TC, mC⟩ := xcls_obj Ic.ok.mod.kin hC
    obtain ⟨bm', N', nm', qn', bs', hdct', sn', sub', ab', col', dd', l0, l1, l2, l3, l5, oD, TD, mD⟩ := xcls_obj Ic.ok.mod.kin hD
    refine excMatches_own (Ic.bk _ _ oC) (Ic.bk _ _ oD) he hcls (TD.hasType (by decide)) ?_
    rw [← mC, hsub]
    refine codeAny_handlers_suite_as ?_
    refine fl_setN F3' fun s4 F4 => ?_
    obtain ⟨oe4, he4, hcls4, hob, Ic4⟩ := inv_at I1 yg F4
    refine store_ok (X := (X.pinned (X.pn ++ pins)).caught x oe4) (v := .ref x) (u := .ref x) Ic4 hN hi (.inl hl) rfl (fun s5 I5 => ?_) (.inr hl)
    have hx : H1 x = none := (Ic4.pin (x, oe4) (by simp)).2.1
    have run := hh (X.pn ++ pins) x oe4 C ok hcls4 hob [] s5 _ H1 (behindL i D) I5 ⟨τ1.set i (some (.ref x)), G1, behind2 i D2, hs1.set (.ref x) i, hg1, q x (hg1.no hx), behind_le (le.mono (tx_un I1.base)) i⟩
    refine wpAny_mono run (fun f s6 r => ?_) fun _ _ z => False.elim z
    have un : ∀ {σ' : St} {H' : Hp}, Inv ((X.pinned (X.pn ++ pins)).caught x oe4) [] σ' H' s6 → Inv X pins σ' H' s6 := fun J => inv_unpinned I.ok (inv_uncaught (I.ok.pinned _) J)
    cases f with
    | next => obtain ⟨σ', H', J, z⟩ := r; exact name_goes (un J) hN hi hl fun s7 J7 => ⟨_, H', J7, z⟩
    | brk => obtain ⟨σ', H', J, z⟩ := r; exact name_goes (un J) hN hi hl fun s7 J7 => ⟨_, H', J7, z⟩
    | cont => obtain ⟨σ', H', J, z⟩ := r; exact name_goes (un J) hN hi hl fun s7 J7 => ⟨_, H', J7, z⟩
    | ret u => obtain ⟨v, σ', H', J, rv, z⟩ := r; exact name_goes (un J) hN hi hl fun s7 J7 => ⟨v, _, H', J7, rv, z⟩
end
section
variable {P : Program} {w : World} {K : PySem.W.Frag} {mg : Str → Option Value} {base : Heap}
theorem fun_okF {x qual : Str} {st : Stmt} {f : Addr} {fd : FuncData} {N ps : List Str} {k : Nat} {sp : Sp2} (F : Fun K x qual st f fd) (S : FnScope N ps (defScope st)) (len : ∀ ws G Q E, sp ws G Q E → ws.length = ps.length)
    (hbody : ∀ (cdv : Value) (A : Around) (outer : List Env) (s : Shared) (H : Hp) (E : XK), Room k (A.deeper (envOfC qual (defScope st) s.heap.objs.size f cdv)) → ∀ (ws : List W) (G : WH) (Q : VK2) (E2 : XK2), sp ws G Q E2 →
      ∃ t, PF (cxOf CX0 P w K mg base N qual (defScope st) f cdv A outer s H E).nox (defBody st) t ∧ t (ends Q) (start2 N ws) G) : FnOk P w K mg base CX0 (k + 1) f fd ps (lowSp K sp) := by
  refine F.ok S (fun vs H Q E ⟨ws, G, Q2, E2, r, s, h, _⟩ => by rw [← r.length]; exact len _ _ _ _ h) fun cdv A outer s H vs Q E hr ⟨ws, G, Q2, E2, r, hg, h, hc, hx⟩ => ?_
  obtain ⟨t, ht, q⟩ := hbody cdv A outer s H E hr ws G Q2 E2 h
  refine ⟨fun D σ H' => ∃ τ G D2, SimS K H' τ σ ∧ Sim K G H' ∧ t D2 τ G ∧ EndsLe K H D2 D, fun pins s' σ H' D I ⟨τ, G, D2, hs, hg, h1, le⟩ => ht pins s' σ H' D D2 τ G I hs hg h1 le, start2 N ws, G, _, r.begin, hg, q,
    ⟨fun σ' H' τ' G' t1 s1 g1 ⟨G0, le, h1⟩ => hc _ H' _ G0 t1 (g1.less le) .non h1, fun v H' w' G' t1 s1 r1 ⟨G0, le, h1⟩ => hc v H' w' G0 t1 (s1.less le) r1 h1, fun _ _ _ _ _ _ _ h => h, fun _ _ _ _ _ _ _ h => h⟩⟩
end
end L3
namespace L3
open PySem PySem.Spec L2
open PyProof.Rows hiding St
theorem entry_unchain : entryFor table "proto.unchain" = some Builtin.«proto.unchain» := entryFor_of_fast (by kernel_rfl)
section
variable {prog : Program} {w : World} {A : Around} {E : Value → Shared → Prop} {s : Shared}
theorem list_end_h {it l x : Addr} {i : Nat} {items : Array Value} {ox : Obj} {Q : Option Value → Shared → Prop} (hh : A.handled = some (.ref x)) (hx0 : s.heap.get? x = some ox) (ob : XOb ox) (hxi : x ≠ it)
    (hit : s.heap.IsListIter it l i) (hl : s.heap.IsList l items) (hx : items[i]? = none)
    (hQ : ∀ h', Heap.ExtBut it s.heap h' → Q none { s with heap := h' }) : wpAny (model prog w) A (pyNext (.ref it)) Q E s := by
  obtain ⟨o, ho, hc, hd⟩ := id hit
  obtain ⟨ol, hol, _, nl, hdl⟩ := hl
  obtain ⟨vs, hxd, hx2, _⟩ := ob
  unfold pyNext
  refine wpAny_bind (wpAny_attempt (wpAny_callSpecial?_slot (name := Str.ofString "__next__") hit.typeIs slot_listiter_next
    (wpAny_call_entry slot_listiter_next hit.typeIs entry_listiter_next ?_ (args_listiter_next _))))
  show wpAny _ _ (field (.ref it) 0 >>= _) _ _ s
  refine wpAny_bind (wpAny_field ho hd (x := .ref l) rfl ?_)
  show wpAny _ _ (if (Value.ref l == Value.none) = true then _ else _) _ _ s
  rw [if_neg (show ¬ ((Value.ref l == Value.none) = true) from Bool.false_ne_true)]
  show wpAny _ _ (field (.ref it) 1 >>= _) _ _ s
  refine wpAny_bind (wpAny_field ho hd (x := .int i 0) rfl ?_)
  show wpAny _ _ (seqItems? (.ref l) >>= _) _ _ s
  refine wpAny_bind (wpAny_seqItems hol hdl ?_)
  simp only [Int.toNat_natCast, hx]
  refine wpAny_bind (wpAny_rule (wpAny_bind (wpAny_setField ho hd (by simp) ?_)))
  show wpAny _ _ (newExc (.type "StopIteration") [] >>= _) _ _ _
  refine wpAny_bind ?_
  simp only [newExc, newTuple]
  refine wpAny_bind (wpAny_newObj_type ?_ (by size_fits))
  refine wpAny_bind (m := firstArgMember _ _) (wpAny_of_eq (a := Value.none) (by first | rfl | (simp only [firstArgMember]; rfl)) ?_)
  refine wpAny_newObj_type ?_ (by size_fits)
  have hx1 : ((s.heap.update it (Obj.mapFields fun x => x.setIfInBounds 0 Value.none)).push { cls := Value.type "tuple", data := Data.seq #[] }).get? x = some ox := Heap.get?_push_of_some _ ((Heap.get?_update_other _ _ (Ne.symm hxi)).trans hx0)
  have e1 : Heap.ExtBut it s.heap ((s.heap.update it (Obj.mapFields fun x => x.setIfInBounds 0 Value.none)).push { cls := Value.type "tuple", data := Data.seq #[] }) := (Heap.SameBut.update ..).extBut.push _
  simp only [raiseNew]
  refine wpAny_bind (wpAny_handled ?_)
  rw [show A.in1.handled = some (.ref x) from hh]
  dsimp only
  generalize hob : ({ cls := Value.type "StopIteration", data := Data.fields (#[Value.ref (s.heap.update it (Obj.mapFields fun x => x.setIfInBounds 0 Value.none)).objs.size, Value.none, Value.none, Value.none, Value.bool false, Value.none] ++ ownMembersOf (Value.type "StopIteration") []) } : Obj) = ob
  have ob1 : ob.cls = .type "StopIteration" := by rw [← hob]
  obtain ⟨ws, ob2, ob3⟩ : ∃ ws, ob.data = .fields ws ∧ 2 < ws.size := ⟨_, by rw [← hob], by simp; omega⟩
  clear hob
  generalize (s.heap.update it (Obj.mapFields fun x => x.setIfInBounds 0 Value.none)).push { cls := Value.type "tuple", data := Data.seq #[] } = h1 at hx1 e1
  have hlt := Heap.lt_size hx1
  have he : (h1.push ob).get? h1.objs.size = some ob := Heap.get?_push_size _ (Obj.isFreed_of_fields ob2)
  rw [if_pos (show (Value.ref x != Value.ref h1.objs.size) = true by simpa using Nat.ne_of_lt hlt)]
  refine wpAny_bind (wpAny_holding (wpAny_runValue (codeAny_builtin entry_unchain ?_)))
  unfold Builtin.«proto.unchain»
  refine wpAny_bind (wpAny_field (s := { s with heap := h1.push ob }) (Heap.get?_push_of_some _ hx1) hxd hx2 ?_)
  rw [if_pos (by rfl)]
  refine wpAny_pure ?_
  unfold updateField
  refine wpAny_bind (wpAny_bind (wpAny_load (s := { s with heap := h1.push ob }) he ?_))
  rw [ob2]
  dsimp only
  rw [if_pos ob3]
  refine wpAny_update (s := { s with heap := h1.push ob }) he ?_
  refine wpAny_throw ?_
  have hd₃ := Obj.data_mapFields ob2 (·.setIfInBounds 2 (Value.ref x))
  refine wpAny_bind (wpAny_isInstance (T := "StopIteration") (b := true) ⟨_, Heap.get?_update_self _ he (Obj.isFreed_of_fields hd₃), (Obj.cls_mapFields _ _).trans ob1⟩ isSubtype_stop ?_)
  refine wpAny_pure (hQ _ fun b o hb q => ?_)
  have q1 := e1 b o hb q
  rw [Heap.get?_update_other _ _ (Nat.ne_of_gt (Heap.lt_size q1))]
  exact Heap.get?_push_of_some _ q1
end
end L3
namespace L3
open PySem PySem.Spec L2
open PyProof.Rows hiding St
def Quiet (X : Cx) : Prop := X.calm = true ∨ ∃ x ox, X.A.handled = some (.ref x) ∧ X.s₀.heap.get? x = some ox ∧ X.H₀ x = none ∧ x ∉ X.fs ∧ x ∉ X.ex ∧ XOb ox
structure TurnQ (P : Program) (w : World) (K : PySem.W.Frag) (tg : Expr) (J : It) (fp : List Addr) (it : Addr) (tn : Nat → Heap → Prop) : Prop where
  mem : it ∈ fp
  obj : ∀ i h, tn i h → ∀ b ∈ fp, ∃ o, h.get? b = some o ∧ ∀ v, o.data ≠ .cell v
  keep : ∀ i h h', tn i h → (∀ b ∈ fp, ∀ o, h.get? b = some o → h'.get? b = some o) → tn i h'
  item : ∀ (X : Cx), X.prog = P → X.w = w → X.K = K → Quiet X → ∀ (i : Nat) (pins : List (Addr × Obj)) (s : Shared) (σ : St) (H : Hp) (E : Value → Shared → Prop), Inv X pins σ H s → (∀ b ∈ fp, FpOk X pins H b) → tn i s.heap → J.go i H →
    wpAny (model P w) X.A (pyNext (.ref it)) (fun r s1 => ∃ u, r = some u ∧
      wpAny (model P w) X.A (letOwnedTupleGo tg (.ref it) u) (fun _ s2 => ∃ x H', Inv X pins σ H' s2 ∧ RelV x u ∧ J.yld i H x H' ∧ tn (i + 1) s2.heap ∧ ∀ b ∈ fp, H' b = none) E s1) E s
  done : ∀ (X : Cx), X.prog = P → X.w = w → X.K = K → Quiet X → ∀ (i : Nat) (pins : List (Addr × Obj)) (s : Shared) (σ : St) (H : Hp) (E : Value → Shared → Prop), Inv X pins σ H s → (∀ b ∈ fp, FpOk X pins H b) → tn i s.heap → J.stop i H →
    wpAny (model P w) X.A (pyNext (.ref it)) (fun r s1 => r = none ∧ Inv X pins σ H s1) E s
  self : ∀ (A : Around) (i : Nat) (s : Shared) (Q : Value → Shared → Prop) (E : Value → Shared → Prop), tn i s.heap → Q (.ref it) s → wpAny (model P w) A (pyIter (.ref it)) Q E s
theorem turn_listQ {P : Program} {w : World} {K : PySem.W.Frag} {tg : Expr} (a it : Addr) : TurnQ P w K tg (Itl K a) [it] it (fun i h => h.IsListIter it a i) where
  mem := by simp
  obj := (turn_list (P := P) (w := w) (K := K) (tg := tg) a it).obj
  keep := (turn_list (P := P) (w := w) (K := K) (tg := tg) a it).keep
  item := by
    intro X hP hw hK hc i pins s σ H E I hf st hg
    subst hP hw hK
    obtain ⟨xs, x, hq, hx⟩ := hg
    obtain ⟨its, rv, p, hz⟩ := I.list hq
    obtain ⟨u, hu, ru⟩ := rv.get hx
    obtain ⟨f0, f1, f2, f3, f4, f5⟩ := hf it (by simp)
    refine wpAny_pyNext_list_item st p.isList (x := u) (by simpa using hu) fun h' st' sb => ?_
    have I1 : Inv X pins σ H { s with heap := h' } := I.turned (t' := s.toks) (fun b o hb e => (sb.2 b hb).trans e) f0 f1 f3 f4 f5
    obtain ⟨o, e, c, d⟩ := id st'
    exact ⟨u, rfl, go_of (s := { s with heap := h' }) e c d (by decide) ⟨x, H, I1, ru, ⟨rfl, fun ys hy => by rw [I.list_inj hy hq]; exact hx⟩, st', fun b hb => (hf b hb).1⟩⟩
  done := by
    intro X hP hw hK hc i pins s σ H E I hf st hg
    rcases hc with hc | ⟨x, ox, hh, h0, hn, hfs, hex, xo⟩
    · exact (turn_list (P := P) (w := w) (K := K) (tg := tg) a it).done X hP hw hK hc i pins s σ H E I hf st hg
    · subst hP hw hK
      obtain ⟨xs, hq, hx⟩ := hg
      obtain ⟨its, rv, p, hz⟩ := I.list hq
      obtain ⟨f0, f1, f2, f3, f4, f5⟩ := hf it (by simp)
      have hl := rv.length
      have hxi : x ≠ it := fun z => by
        rcases f3 with q | q
        · exact hex (by rw [z]; exact q)
        · exact absurd (Heap.lt_size h0) (Nat.not_lt.mpr (by rw [z]; exact q))
      exact list_end_h hh (I.base.keep x ox h0 hn hfs hex) xo hxi st p.isList (by simp; omega) fun h' eb => ⟨rfl, I.turned (t' := s.toks) (fun b o hb e => eb b o hb e) f0 f1 f3 f4 f5⟩
  self := (turn_list (P := P) (w := w) (K := K) (tg := tg) a it).self
def PIEQ (X : Cx) (pins : List (Addr × Obj)) (σ : St) (tg : Expr) (R : It → Hp → Prop) (itv : Value) (s2 : Shared) : Prop :=
  ∃ (it : Addr) (fp : List Addr) (tn : Nat → Heap → Prop) (J : It) (H' : Hp), itv = .ref it ∧ Inv X pins σ H' s2 ∧ TurnQ X.prog X.w X.K tg J fp it tn ∧ tn 0 s2.heap ∧ (∀ b ∈ fp, FpOk X pins H' b) ∧ R J H'
def PIQ (X : Cx) (tg iter : Expr) (wi : TI) : Prop :=
  ∀ (pins : List (Addr × Obj)) (s : Shared) (σ : St) (H : Hp) (R : It → Hp → Prop), Inv X pins σ H s → wi σ H R →
    wpAny (model X.prog X.w) X.A (eval iter X.env) (fun v s1 => wpAny (model X.prog X.w) X.A (pyIter v) (PIEQ X pins σ tg R) X.xe s1) X.xe s
theorem quiet_block {X : Cx} {pins : List (Addr × Obj)} {σ : St} {H2 : Hp} {s2 : Shared} {fp : List Addr} {scope : Scope} {cl : List (Str × Addr)} {C : Addr} {N' : List Str} {ex : Addr} {ox : Obj} (hh : X.A.handled = some (.ref ex)) (hp : (ex, ox) ∈ X.pn) (xo : XOb ox)
    (I2 : Inv X pins σ H2 s2) (f2 : ∀ b ∈ fp, FpOk X pins H2 b) : Quiet (cxBlock X scope cl C s2 H2 fp N') := by
  obtain ⟨h1, h2, h3, h4, h5⟩ := I2.pin (ex, ox) (List.mem_append_left _ hp)
  refine .inr ⟨ex, ox, hh, h1, h2, fun z => ?_, fun z => ?_, xo⟩
  · rcases List.mem_cons.mp (I2.stkSub _ z) with q | q
    · exact h3 q
    · exact h4 q
  · exact (f2 ex z).2.2.2.2.2 (ex, ox) (List.mem_append_left _ hp) rfl
def iListQ (K : PySem.W.Frag) (tl : TE) : TI := fun σ H R => tl σ H fun x H1 => ∃ a, x = .ref a ∧ (∃ xs, SqL K H1 a xs) ∧ R (Itl K a) H1
theorem pi_listQ {X : Cx} {tg l : Expr} {tl : TE} (hl : PE X l tl) : PIQ X tg l (iListQ X.K tl) := by
  intro pins s σ H R I h
  refine thn (hl pins s σ H _ I h) fun v s1 ⟨x, H1, I1, r1, q1⟩ => ?_
  obtain ⟨a, e, ⟨xs, hq⟩, q⟩ := q1
  subst e
  cases r1
  obtain ⟨its, rv, p, hz⟩ := I1.list hq
  refine wpAny_pyIter_list p.isList ?_
  refine ⟨s1.heap.objs.size, [s1.heap.objs.size], _, _, H1, rfl, I1.kept (t' := s1.toks) fun b o e => Heap.get?_push_of_some _ e, turn_listQ a _, ⟨_, Heap.get?_push_size _ rfl, rfl, rfl⟩, fun b hb => ?_, q⟩
  have e : b = s1.heap.objs.size := by simpa using hb
  subst e
  exact I1.fpOk (Nat.le_refl _) (I1.hok.fresh (Nat.le_refl _))
section
variable {X : Cx} {elt tg iter : Expr} {ifs : List Expr} {scope : Scope} {pos : Pos} {wi : TI} {g : TG} {tc : TT} {te : TE} {cap : List (Option Nat)} {N' : List Str}
theorem block_runQ {pins : List (Addr × Obj)} {σ : St} {H2 : Hp} {s2 : Shared} {Q : VK} {it : Addr} {fp : List Addr} {tn : Nat → Heap → Prop} {J : It} {cl : List (Str × Addr)} {RR : Value → Addr → Result → Shared → Prop} {E : Value → Shared → Prop}
    (hc : ∀ C, Quiet (cxBlock X scope cl C s2 H2 fp N')) (ok : CompOk X scope cap N') (h1 : ∀ n c, cl.lookup n = some c → X.env.cells.lookup n = some c) (h2 : ∀ n, (n, NameKind.free) ∈ scope.names → ∃ c, cl.lookup n = some c)
    (hb : ∀ cl C s H fp, PG (cxBlock X scope cl C s H fp N') tg g ∧ PTs (cxBlock X scope cl C s H fp N') ifs tc ∧ PE (cxBlock X scope cl C s H fp N') elt te)
    (I2 : Inv X pins σ H2 s2) (T : TurnQ X.prog X.w X.K tg J fp it tn) (st2 : tn 0 s2.heap) (f2 : ∀ b ∈ fp, FpOk X pins H2 b)
    (W : Nat → Nat → St → Hp → List V → Prop) (w0 : ∃ m, W 0 m (cap.map fun o => o.bind fun j => (σ[j]?).join) H2 [])
    (turn : ∀ i m σ' H' acc, W i m σ' H' acc → (J.stop i H' ∧ ∀ p, H' p = none → Q (.ref p) (upd H' p (.lst acc))) ∨
      (J.go i H' ∧ acc.length < sizeLine ∧ ∀ x H2, J.yld i H' x H2 → g x σ' H2 fun σ3 H3 => tc σ3 H3 fun b H4 => if b = true then te σ3 H4 fun y H5 => ∃ m', m' < m ∧ W (i + 1) m' σ3 H5 (acc ++ [y]) else ∃ m', m' < m ∧ W (i + 1) m' σ3 H4 acc))
    (fin : ∀ (D C : Addr) (s' : Shared) (H' : Hp), (∃ m, s'.heap.Ns C m) → Inv X pins σ H' s' → Q (.ref D) H' → OwnC X pins H' C → RR (.ref D) C (.ok .next) s') :
    wpAny (model X.prog X.w) X.A (newList []) (fun acc s₃ => wpAny (model X.prog X.w) X.A (newFunctionEnv scope X.env.globals cl [] X.env.qual none .none (some X.env)) (fun cenv s₄ =>
      codeAny (model X.prog X.w) X.A (.compStart (.ListComp elt [⟨tg, iter, ifs, 0⟩] scope pos) 0 (.ref it) acc { cenv with scope := relabel scope X.env }) (RR acc cenv.locals) s₄) E s₃) E s2 := by
  obtain ⟨m0, w0⟩ := w0
  refine wpAny_newObj_type (wpAny_newFunctionEnv ok.cell (by intro y hy; simp at hy) (fun h₁ hns₁ hsb₁ => ?_) ok.kind)
  dsimp only at hns₁ hsb₁ ⊢
  generalize hH2 : s2.heap.push { cls := .type "list", dict := none, data := .seq ([] : List Value).toArray } = P2 at hns₁ hsb₁ ⊢
  have hC : P2.objs.size = s2.heap.objs.size + 1 := by rw [← hH2, Heap.size_push]
  have hDC : s2.heap.objs.size ≠ P2.objs.size := by rw [hC]; exact Nat.ne_of_lt (Nat.lt_succ_self _)
  have hCle : s2.heap.objs.size ≤ P2.objs.size := by rw [hC]; exact Nat.le_succ _
  have old : ∀ b o, s2.heap.get? b = some o → h₁.get? b = some o := fun b o e =>
    hsb₁.extBut b o (by rw [hC]; exact Nat.ne_of_lt (Nat.lt_succ_of_lt (Heap.lt_size e))) (Heap.get?_push_of_some _ (hH2 ▸ Heap.get?_push_of_some _ e))
  have hacc : h₁.get? s2.heap.objs.size = some (lob [] 0) := hsb₁.extBut _ _ hDC (Heap.get?_push_of_some _ (hH2 ▸ Heap.get?_push_size _ rfl))
  have fplt : ∀ b ∈ fp, b < s2.heap.objs.size := fun b hb => let ⟨o, e, _⟩ := T.obj 0 s2.heap st2 b hb; Heap.lt_size e
  have okB : (cxBlock X scope cl P2.objs.size s2 H2 fp N').Ok := block_ok I2 (fun b hb => ⟨f2 b hb, fplt b hb⟩) hCle ok.kind ok.cell h1 h2
  have hDL : s2.heap.objs.size ≠ X.env.locals := Nat.ne_of_gt I2.lt
  have hDfs : s2.heap.objs.size ∉ frs X.stack := fun hm => by
    rcases List.mem_cons.mp (I2.stkSub _ hm) with z | z
    · exact hDL z
    · exact I2.nofs (Nat.le_refl _) z
  have hDcell : ∀ x c, cl.lookup x = some c → c ≠ s2.heap.objs.size := fun x c e z => by
    obtain ⟨v, q⟩ := I2.cell x c (h1 x c e)
    exact absurd (Nat.lt_of_lt_of_le q.lt (by rw [z]; exact Nat.le_refl _)) (Nat.lt_irrefl _)
  have hDfp : s2.heap.objs.size ∉ fp := fun hm => Nat.lt_irrefl _ (fplt _ hm)
  -- what stays true of the iterator's objects
  have stat : ∀ {pl : List (Addr × Obj)} {H' : Hp}, (∀ p ∈ pl, p.1 = s2.heap.objs.size) → (∀ b ∈ fp, H' b = none) → ∀ b ∈ fp, FpOk (cxBlock X scope cl P2.objs.size s2 H2 fp N') pl H' b := fun {pl H'} hp hn b hb =>
    ⟨hn b hb, Nat.ne_of_lt (Nat.lt_of_lt_of_le (fplt b hb) hCle), okB.exfs b hb, .inl hb, fun x c e => (f2 b hb).2.2.2.2.1 x c (h1 x c e), fun p hm z => hDfp (by rw [← hp p hm, z]; exact hb)⟩
  have I4 : Inv (cxBlock X scope cl P2.objs.size s2 H2 fp N') [(s2.heap.objs.size, lob [] 0)] (cap.map fun o => o.bind fun j => (σ[j]?).join) H2 { s2 with heap := h₁, toks := s2.toks + ([] : List (Str × Value)).length } := by
    refine ⟨okB, rfl, I2.bare, Un.kept old, ⟨_, hns₁, fun i x v e1 e2 e3 => ?_⟩, fun x c e => ?_, I2.hok.fresh hCle, fun x c e => I2.freeC x c (h1 x c e), fun p hp => ?_, I2.hok.kept old, ?_⟩
    · rw [List.getElem?_map] at e2
      cases ec : cap[i]? with
      | none => rw [ec] at e2; cases e2
      | some o =>
        rw [ec] at e2
        cases o with
        | none => cases e2
        | some j =>
          have e2' : (σ[j]?).join = some v := by simpa using e2
          have ej : σ[j]? = some (some v) := by
            cases q : σ[j]? with
            | none => rw [q] at e2'; cases e2'
            | some z => rw [q] at e2'; have : z = some v := e2'; rw [this]
          obtain ⟨c1, c2, c3, c4⟩ := ok.cap i j x ec e1
          obtain ⟨m, hn, hl⟩ := I2.loc
          obtain ⟨u, ru, lk⟩ := hl j x v c1 ej (.inr (.inl c2))
          refine ⟨u, ru, .inr ⟨.inl c3, ?_⟩⟩
          rcases lk with ⟨k, _⟩ | ⟨_, c, e, z⟩
          · rw [c2] at k; cases k
          · obtain ⟨c', e'⟩ := h2 x c4
            have : c' = c := by
              have := h1 x c' e'
              rw [e] at this
              exact (Option.some.inj this).symm
            subst this
            obtain ⟨ob, eo, ed⟩ := z
            exact ⟨c', e', ob, old _ _ eo, ed⟩
    · obtain ⟨v, ob, eo, ed⟩ := I2.cell x c (h1 x c e)
      exact ⟨v, ob, old _ _ eo, ed⟩
    · have hp' : p = (s2.heap.objs.size, lob [] 0) := by simpa [cxBlock] using hp
      subst hp'
      exact ⟨hacc, I2.hok.fresh (Nat.le_refl _), hDC, hDfs, fun v z => by cases z⟩
    · show (cap.map _).length = N'.length
      rw [List.length_map]; exact ok.len
  have st4 : tn 0 h₁ := T.keep 0 _ _ st2 fun b _ o e => old b o e
  have loop : ∀ s4 : Shared, s4 = { s2 with heap := h₁, toks := s2.toks + ([] : List (Str × Value)).length } →
      codeAny (model X.prog X.w) X.A (.compLoop (.ListComp elt [⟨tg, iter, ifs, 0⟩] scope pos) 0 (.ref it) (.ref s2.heap.objs.size) (compEnvC scope cl P2.objs.size X.env)) (RR (.ref s2.heap.objs.size) P2.objs.size) s4 := by
    rintro s4 rfl
    obtain ⟨hg, ht, he⟩ := hb cl P2.objs.size s2 H2 fp
    refine comp_loop (fun n s' => ∃ i σ' H' acc its k, Inv (cxBlock X scope cl P2.objs.size s2 H2 fp N') [(s2.heap.objs.size, lob its k)] σ' H' s' ∧ tn i s'.heap ∧ (∀ b ∈ fp, H' b = none) ∧ Vals acc its ∧ acc.length ≤ sizeLine ∧ W i n σ' H' acc) ?_ m0
      ⟨0, _, H2, [], [], 0, I4, st4, fun b hb => (f2 b hb).1, .nil, Nat.zero_le _, w0⟩
    rintro n s5 ⟨i, σ5, H5, acc, its, k, I5, st5, fr5, rv, hz, w5⟩
    have pin1 : ∀ {k : Nat} {its : List Value}, ∀ p ∈ ([(s2.heap.objs.size, lob its k)] : List (Addr × Obj)), p.1 = s2.heap.objs.size := fun p hp => by
      have := List.mem_singleton.mp hp
      rw [this]
    rcases turn i n σ5 H5 acc w5 with ⟨stop, qn⟩ | ⟨go, hlt, step⟩
    · refine thn (T.done (cxBlock X scope cl P2.objs.size s2 H2 fp N') rfl rfl rfl (hc _) i _ s5 σ5 H5 _ I5 (stat pin1 fr5) st5 stop) fun r s6 ⟨hr, I6⟩ => ?_
      subst hr
      obtain ⟨m6, hn6, _⟩ := id I6.loc
      obtain ⟨pe, pn, _, _, _⟩ := I6.pin (s2.heap.objs.size, lob its k) (List.mem_append_right _ List.mem_cons_self)
      have fC : H5 P2.objs.size = none := I6.free
      have neD : ∀ b u, H5 b = some u → b ≠ s2.heap.objs.size := fun b u e z => by rw [z, pn] at e; cases e
      have un : Un (frs X.stack) fp H2 (upd H5 s2.heap.objs.size (.lst acc)) s2.heap s6.heap := by
        have B : Un (frs X.stack) fp H2 H5 s2.heap s6.heap := I6.base
        refine ⟨B.keep, B.slot, fun b o e n hx => ?_, B.there, fun b xs e => ?_, fun b o u e => ?_, fun b ps e => ?_⟩
        · rw [upd_ne (Nat.ne_of_lt (Heap.lt_size e))]; exact B.free b o e n hx
        · have z := B.tups b xs e
          rw [upd_ne (neD b _ z)]; exact z
        · have z := B.frzs b o u e
          rw [upd_ne (neD b _ z)]; exact z
        · obtain ⟨more, z⟩ := B.tbls b ps e
          exact ⟨more, by rw [upd_ne (neD b _ z)]; exact z⟩
      have hokD : HOk X.prog X.w X.K (upd H5 s2.heap.objs.size (.lst acc)) s6.heap := fun b u e => by
        by_cases hbD : b = s2.heap.objs.size
        · subst hbD
          rw [upd_same] at e; cases e
          exact ⟨hz, its, k, rv, pe⟩
        · rw [upd_ne hbD] at e
          exact (I6.hok b u e).stay (fun c v hcc q => q) (fun c q => by rw [upd_ne (neD c _ q)]; exact q) fun c xs q => by rw [upd_ne (neD c _ q)]; exact q
      have I7 : Inv X pins σ (upd H5 s2.heap.objs.size (.lst acc)) s6 := I2.call' (s' := s6) (ch := fp) I6.os un hokD I6.bare fun b hb =>
        ⟨(f2 b hb).2.2.2.1, (f2 b hb).2.1, (f2 b hb).2.2.2.2.1, (f2 b hb).2.2.2.2.2⟩
      refine fin _ _ s6 _ ⟨m6, hn6⟩ I7 (qn _ pn) ⟨by rw [upd_ne (Ne.symm hDC)]; exact fC, Nat.ne_of_gt (Nat.lt_of_lt_of_le I2.lt hCle), Nat.le_trans I2.sz hCle, fun x c e z => ?_, fun p hp z => ?_⟩
      · obtain ⟨v, q⟩ := I2.cell x c e
        exact absurd (Nat.lt_of_lt_of_le q.lt (by rw [z]; exact hCle)) (Nat.lt_irrefl _)
      · exact absurd (Nat.lt_of_lt_of_le (Heap.lt_size (I2.pin p hp).1) (by rw [z]; exact hCle)) (Nat.lt_irrefl _)
    · refine thn (T.item (cxBlock X scope cl P2.objs.size s2 H2 fp N') rfl rfl rfl (hc _) i _ s5 σ5 H5 _ I5 (stat pin1 fr5) st5 go) fun r s6 ⟨u, hr, q6⟩ => ?_
      subst hr
      refine thn q6 fun _ s7 ⟨x, H7, I7, r7, y7, st7, fr7⟩ => ?_
      have I7' := I7.pinned (stat pin1 fr7) (T.obj _ _ st7)
      refine thn (hg _ s7 σ5 H7 x u _ I7' r7 (step x H7 y7)) fun _ s8 ⟨σ8, H8, I8, q8⟩ => ?_
      refine thn (ht _ s8 σ8 H8 _ I8 q8) fun b s9 ⟨H9, I9, q9⟩ => ?_
      have again : ∀ {σa : St} {Ha : Hp} {sa : Shared}, Inv (cxBlock X scope cl P2.objs.size s2 H2 fp N') ([(s2.heap.objs.size, lob its k)] ++ pinsAt fp s7.heap) σa Ha sa → tn (i + 1) sa.heap ∧ ∀ b ∈ fp, Ha b = none := fun {σa Ha sa} Ia =>
        ⟨T.keep _ _ _ st7 fun b hb o e => (Ia.pin (b, o) (List.mem_append_right _ (List.mem_append_right _ (mem_pinsAt hb e)))).1, fun b hb => by
          obtain ⟨o, e, d⟩ := T.obj _ _ st7 b hb
          exact (Ia.pin (b, o) (List.mem_append_right _ (List.mem_append_right _ (mem_pinsAt hb e)))).2.1⟩
      cases b with
      | false =>
        obtain ⟨m', hm, w9⟩ := q9
        obtain ⟨a1, a2⟩ := again I9
        exact ⟨m', hm, i + 1, σ8, H9, acc, its, k, I9.unpinned, a1, a2, rv, hz, w9⟩
      | true =>
        refine thn (he _ s9 σ8 H9 _ I9 q9) fun z s10 ⟨y, H10, I10, ry, m', hm, w10⟩ => ?_
        obtain ⟨pe, pn, pL, pf, pd⟩ := I10.pin (s2.heap.objs.size, lob its k) (List.mem_append_right _ (List.mem_append_left _ List.mem_cons_self))
        have hl := rv.length
        refine call_meets F.slot_list_append ⟨_, pe, rfl⟩ F.entry_list_append (F.args_list_append_2 _ _) (PySem.list_append s2.heap.objs.size its.toArray k z (by rw [List.size_toArray]; omega)) ⟨pe, ?_⟩
        obtain ⟨k', q⟩ : ∃ k', (s10.heap.update s2.heap.objs.size (Obj.mapSeq fun a => a.push z)).get? s2.heap.objs.size = some (lob (its ++ [z]) k') := ⟨_, by
          have q := PySem.IsL.update pe fun a => a.push z
          simpa using q⟩
        obtain ⟨a1, a2⟩ := again I10
        have I11 : Inv (cxBlock X scope cl P2.objs.size s2 H2 fp N') [] σ8 H10 { s10 with heap := s10.heap.update s2.heap.objs.size (Obj.mapSeq fun a => a.push z), toks := s10.toks } :=
          (I10.pins_of (pins' := []) fun p hp => nomatch hp).turned (fun b o hb e => (Heap.get?_update_other s10.heap _ (Ne.symm hb)).trans e) pn hDC (.inr (Nat.le_refl _)) hDcell fun p hp => by
            have : p ∈ ([] : List (Addr × Obj)) := by simpa [cxBlock] using hp
            exact nomatch this
        refine ⟨m', hm, i + 1, σ8, H10, acc ++ [y], its ++ [z], k', I11.pins_of (pins' := [(s2.heap.objs.size, lob (its ++ [z]) k')]) fun p hp => ?_, ?_, a2, rv.append (.cons ry .nil), ?_, w10⟩
        · have hp' := List.mem_singleton.mp hp
          subst hp'
          exact ⟨q, pn, hDC, hDfs, fun v z => by cases z⟩
        · exact T.keep _ _ _ a1 fun b hb o e => (Heap.get?_update_other s10.heap _ (fun z => hDfp (by rw [z]; exact hb))).trans e
        · rw [List.length_append, List.length_singleton]; omega
  exact codeAny_compStart_list (loop _ rfl) (T.self _ 0 _ _ _ st4 (loop _ rfl))
theorem pe_compQ {ex : Addr} {ox : Obj} (hh : X.A.handled = some (.ref ex)) (hp : (ex, ox) ∈ X.pn) (xo : XOb ox) (hi : PIQ X tg iter wi) (ok : CompOk X scope cap N')
    (hb : ∀ cl C s H fp, PG (cxBlock X scope cl C s H fp N') tg g ∧ PTs (cxBlock X scope cl C s H fp N') ifs tc ∧ PE (cxBlock X scope cl C s H fp N') elt te)
    (hs : ∀ x, foldedSetIterable iter X.env x = pure x := by intro _; rfl) : PE X (.ListComp elt [⟨tg, iter, ifs, 0⟩] scope pos) (tComp wi g tc te cap) := by
  intro pins s σ H Q I h
  obtain ⟨cl, hcl, h1, h2⟩ := closure_of (scope := scope) (env := X.env) fun x hx hk => I.ok.has x.1 (.inl (ok.free x hx hk))
  rw [eval_ListComp]
  refine wpAny_comprehension_free (use := none) rfl hs hcl ok.kind ok.names (thn (hi pins s σ H _ I h) fun v s1 q1 => thn q1 fun itv s2 q2 => ?_)
  obtain ⟨it, fp, tn, J, H2, e, I2, T, st2, f2, W, w0, turn⟩ := q2
  subst e
  refine block_runQ (Q := Q) (RR := fun acc C => compPost (model X.prog X.w) X.A X.xe none (EP X pins σ Q) acc C) (fun C => quiet_block hh hp xo I2 f2) ok h1 h2 hb I2 T st2 f2 W w0 turn ?_
  intro D C s' H' hm I' hq ow
  obtain ⟨m, hn⟩ := hm
  exact ⟨m, hn, fun h' hs' => ⟨.ref D, H', I'.letGo ow hs', rfl, hq⟩⟩
end
@[irreducible] def PI2Q (X : Cx) (tg iter : Expr) (t : TI2) : Prop := PIQ X tg iter (lowI X.K t)
def iLst2 (ta : TE2) : TI2 := fun τ G R => ta τ G fun w G1 => match w with
  | .ref a => ∃ ws, G1 a = some (.lst ws) ∧ R ws (fun G => G a = some (.lst ws)) G1
  | _ => False
section
variable {X : Cx} {elt tg iter : Expr} {ifs : List Expr} {scope : Scope} {pos : Pos} {s : TI2} {g : TG2} {tc : TT2} {te : TE2} {cap : List (Option Nat)} {N' : List Str}
theorem i_lstQ {l : Expr} {ta : TE2} (hl : PE2 X l ta) : PI2Q X tg l (iLst2 ta) := by
  simp only [PE2, PI2Q] at *
  exact (fun pins s σ H R I ⟨τ, G, R2, hs, hg, ht, c⟩ =>
  pi_listQ hl pins s σ H R I ⟨τ, G, _, hs, hg, ht, fun v H1 w G1 t1 s1 r1 h1 => by
    cases w <;> first | exact False.elim h1 | skip
    cases r1
    obtain ⟨ws, e1, h1⟩ := h1
    obtain ⟨vs0, hv0, _⟩ := s1 _ _ e1
    refine ⟨_, rfl, ⟨_, .of hv0⟩, c _ H1 ws _ G1 t1 s1 ⟨fun i H' G' w' tx sg va e => ?_, fun H' G' tx sg va => ?_⟩ h1⟩
    · obtain ⟨vs, hv, r⟩ := sg _ _ va
      obtain ⟨v, e', rv⟩ := r.get e
      exact ⟨⟨_, v, .of hv, e'⟩, fun x H'' ⟨eq, y⟩ => by subst eq; have := y _ (.of hv); rw [e'] at this; cases this; exact ⟨.refl _, sg, rv⟩⟩
    · obtain ⟨vs, hv, r⟩ := sg _ _ va
      exact ⟨_, .of hv, by rw [← r.length]; exact Nat.le_refl _⟩⟩)
theorem e_compQ {ex : Addr} {ox : Obj} (hh : X.A.handled = some (.ref ex)) (hp : (ex, ox) ∈ X.pn) (xo : XOb ox) (hi : PI2Q X tg iter s) (ok : CompOk X scope cap N')
    (hb : ∀ cl C s H fp, PG2 (cxBlock X scope cl C s H fp N') tg g ∧ PTs (cxBlock X scope cl C s H fp N') ifs (lowT X.K tc) ∧ PE2 (cxBlock X scope cl C s H fp N') elt te)
    (hs : ∀ x, foldedSetIterable iter X.env x = pure x := by intro _; rfl) : PE2 X (.ListComp elt [⟨tg, iter, ifs, 0⟩] scope pos) (uComp s g tc te cap) := by
  simp only [PE2, PG2, PI2Q] at *
  exact (PE.imp (pe_compQ (g := lowG X.K g) (tc := lowT X.K tc) (te := low X.K te) hh hp xo hi ok hb hs) low_comp)
end
end L3
namespace L3
open PySem PySem.Spec L2
open PyProof.Rows hiding St
section
variable {prog : Program} {w : World} {A : Around} {E : Value → Shared → Prop} {s : Shared} {K : PySem.W.Frag} {x C : Addr} {ox : Obj}
theorem exc_class {Q : Option Value → Shared → Prop} (X : K.In s.heap) (I : PySem.W.InstAt s.heap x ox C none) (hga : PySem.W.findIn K (.ref C) "__getattribute__" = some (some (.builtin "BaseException.__getattribute__"))) (hgn : PySem.W.findIn K (.ref C) "__getattr__" = some none)
    (hf : PySem.W.findObj K C none "__class__" = some (.bind (.builtin "getset_descriptor.__get__") (.builtin "object.__class__"))) (hm : PySem.W.mroIn K C (.type "object") = some true) (hb : PySem.W.mroIn K C (.type "BaseException") = some true)
    (h : Q (some (.ref C)) { s with toks := s.toks + 1 }) : wpAny (model prog w) A (getAttr? (.ref x) "__class__") Q E s := by
  obtain ⟨hh, g, d, t, os⟩ := s
  have L0 := I.type (M := model prog w)
  have L1 := PySem.W.looks_findIn (M := model prog w) X hga
  have L2 := PySem.W.looks_findIn (M := model prog w) X hgn
  have L3 := PySem.W.looks_find (M := model prog w) X I hf
  have L4 := PySem.W.looks_mroIn (M := model prog w) X hb
  unfold getAttr? getAttrBy? getAttrBy
  refine wpAny_bind (wpAny_mkText (wpAny_bind (wpAny_attempt (wpAny_holding (wpAny_bind (L0.at (wpAny_bind (L1.at ?_))))))))
  show wpAny _ _ (if _ = true then _ else _) _ _ _
  have hx2 : (Value.builtin "BaseException.__getattribute__" == Value.builtin "object.__getattribute__") = false := by decide +kernel
  rw [if_neg (by rw [hx2, Bool.and_false]; exact Bool.false_ne_true)]
  unfold getAttrByItsOwn hookBefore
  rw [if_pos (show onTheHeap (.ref C) = true from rfl)]
  refine wpAny_bind (L2.at ?_)
  refine wpAny_bind (wpAny_attempt (wpAny_holding ?_))
  unfold callGetattribute
  rw [if_neg (by rw [Bool.false_and]; exact Bool.false_ne_true)]
  unfold boundAndCalled
  refine wpAny_bind (wpAny_of_eq (PySem.F.attr_ValueError.ga.bind (.ref x)) ?_)
  refine wpAny_call (codeAny_call_builtin PySem.F.attr_ValueError.ga.plain PySem.F.entry_bexc_ga ?_)
  have hk : builtinKind "BaseException.__getattribute__" = some .slot := by decide +kernel
  have hsplit : splitId "BaseException.__getattribute__" = some ("BaseException", "__getattribute__") := by decide +kernel
  have ha := PySem.F.args_bexc_ga (.ref x) (.str "__class__" t)
  show wpAny _ _ (checkBuiltinCall "BaseException.__getattribute__" ⟨[.ref x, .str "__class__" t], []⟩) _ _ _
  have I1 : PySem.W.InstAt (⟨hh, g, d, t + 1, os⟩ : Shared).heap x ox C none := I
  refine wpAny_mono (Q := fun _ s' => s' = ⟨hh, g, d, t + 1, os⟩) (E := fun _ _ => False) ?chk (fun _ s' e => ?_) fun _ _ z => False.elim z
  case chk =>
    simp only [checkBuiltinCall, hk, hsplit]
    refine wpAny_bind ?_
    unfold isInstance
    refine wpAny_bind (L0.at (L4.at ?_))
    repeat (any_goals (first | assumption | rfl | wp_step))
  subst e
  unfold Builtin.«object.__getattribute__»
  refine wpAny_bind (wpAny_of_eq (a := (Value.ref x, [Value.str "__class__" t])) (by rfl) ?_)
  refine wpAny_bind (m := Builtin.ObjectAttr.attrName (.str "__class__" t)) ?_
  unfold Builtin.ObjectAttr.attrName
  repeat (any_goals (first | assumption | (with_reducible refine L0.at ?_) | (with_reducible refine L3.at ?_) | wp_step))
  refine PySem.W.class_get (s := ⟨hh, g, d, t + 1, os⟩) (ox := ox) (od := none) X I1 hm ?_
  exact wpAny_pure (wpAny_pure (wpAny_pure h))
end
structure TyX (K : PySem.W.Frag) (C : Addr) : Prop where
  ga : PySem.W.findIn K (.ref C) "__getattribute__" = some (some (.builtin "BaseException.__getattribute__"))
  gn : PySem.W.findIn K (.ref C) "__getattr__" = some none
  ha : PySem.W.findIn K (.ref C) "__class__" = some (some (.builtin "object.__class__"))
  hn : PySem.W.specialIn K (.builtin "object.__class__") "__get__" = some (some (.builtin "getset_descriptor.__get__"))
  htk : PySem.W.takesIn K (.builtin "object.__class__") = some true
  hm : PySem.W.mroIn K C (.type "object") = some true
  hb : PySem.W.mroIn K C (.type "BaseException") = some true
theorem TyX.cls {K : PySem.W.Frag} {C : Addr} (y : TyX K C) : ∃ cd, PySem.W.clsIn K C = some cd := by
  obtain ⟨cd, a, _⟩ := Option.bind_eq_some_iff.mp y.hm
  exact ⟨cd, a⟩
theorem TyX.find {K : PySem.W.Frag} {C : Addr} (y : TyX K C) : PySem.W.findObj K C none "__class__" = some (.bind (.builtin "getset_descriptor.__get__") (.builtin "object.__class__")) := by
  obtain ⟨cd, hc⟩ := y.cls
  unfold PySem.W.findObj
  rw [hc, Option.bind_some, y.ha, Option.bind_some]
  simp [y.hn, y.htk]
theorem kitx_exc {K : PySem.W.Frag} {x C : Addr} {ox : Obj} (y : TyX K C) : PySem.W.KitX K (.ref x) (.ref C) (fun h => PySem.W.InstAt h x ox C none) where
  ty := fun _ _ _ I => I.type
  it := fun _ _ X _ => by
    obtain ⟨cdD, hcD⟩ := y.cls
    unfold PySem.W.clsIn at hcD
    split at hcD
    · rename_i c' d' cd' sl' ho
      intro A' Q' E' s' k q
      unfold isType loadHead
      exact wpAny_bind (wpAny_loadPart (k _ _ (X _ _ ho)) (wpAny_pure q))
    · cases hcD
  ne := fun h tp dd its n sl X htp => by
    obtain ⟨cdD, hcD⟩ := y.cls
    refine Bool.eq_false_iff.mpr fun q => ?_
    have e : C = tp := Value.ref.inj (beq_iff_eq.mp q)
    subst e
    unfold PySem.W.clsIn at hcD
    split at hcD
    · rename_i c' d' cd' sl' ho
      have z := (X _ _ ho).symm.trans htp
      cases z
    · cases hcD
  ca := fun X I k => exc_class X I y.ga y.gn y.find y.hm y.hb k
def uIsX (x : Addr) (b : Bool) (te : TE2) : TE2 := fun τ G Q => te τ G fun w G1 => w = .ref x ∧ Q (.bl b) G1
section
variable {X : Cx} {D C x : Addr} {c : Str} {b : Bool} {ox : Obj} {p p2 pos : Pos} {e : Expr} {te : TE2} {dv : V} {dc : Value}
theorem e_isX0 (y : TyX X.K C) (hk : PySem.W.kitOne X.K (.ref C) dc = some b) (hp : (x, ox) ∈ X.pn) (hcl : ox.cls = .ref C) (xo : XOb ox)
    (hg : Gl X "isinstance") (hm : X.mg "isinstance" = none) (hc : PE X (.Name c p2) (tC dv)) (hrd : ∀ u, RelV dv u → u = dc) (h : PE2 X e te)
    (hs1 : starEach [e, .Name c p2] X.env = (false, eval e X.env) :: starEach [.Name c p2] X.env := by rfl)
    (hs2 : starEach [.Name c p2] X.env = (false, eval (.Name c p2) X.env) :: starEach [] X.env := by rfl) (hpl : (backTo pos (starEach [.Name c p2] X.env)).any (·.1) = false := by rfl) :
    PE2 X (.Call (.Name "isinstance" p) [e, .Name c p2] [] pos) (uIsX x b te) := by
  simp only [PE2] at *
  have hr : CallR X (.builtin "isinstance") (fun xs H Q => xs = [.ref x, dv] ∧ Q (.bl b) H) := by
    rintro pins s σ H xs us Q I rv ⟨rfl, q⟩
    obtain ⟨u1, u2, rfl, r1, r2⟩ := rv.two
    cases r1
    cases hrd _ r2
    obtain ⟨vs, hxd, _, hdi⟩ := id xo
    have hno : PySem.W.notCls ox = true := by unfold PySem.W.notCls; rw [hxd]
    have hx := (I.pin (x, ox) (List.mem_append_left _ hp)).1
    refine PySem.W.kia_one (kitx_exc (x := x) (ox := ox) y) I.kIn ⟨hx, hcl, hno, by rw [hdi]; trivial⟩ hk (fun z => nomatch z) fun tk => ⟨.bl b, H, I.tok tk, rfl, q⟩
  refine PE.imp (pe_callB hr hg hm (by rfl) (pa_cons h (pa_cons hc pa_nil hs2) hs1) (by decide) (by decide) hs1 hpl) fun σ H Q ⟨τ, G, Q2, hs, hg, ht, c⟩ => ?_
  refine ⟨τ, G, _, hs, hg, ht, fun v H1 w G1 t1 s1 r1 h1 => ?_⟩
  obtain ⟨rfl, q⟩ := h1
  cases r1
  exact ⟨rfl, c _ H1 _ G1 t1 s1 (.bl b) q⟩
theorem e_isXo (y : TyX X.K C) (hk : PySem.W.kitOne X.K (.ref C) (.ref D) = some b) (hp : (x, ox) ∈ X.pn) (hcl : ox.cls = .ref C) (xo : XOb ox)
    (hg : Gl X "isinstance") (hm : X.mg "isinstance" = none) (hgc : Gl X c) (hmc : X.mg c = some (.ref D)) (h : PE2 X e te) (hd : (c == ("__debug__" : Str)) = false := by decide)
    (hs1 : starEach [e, .Name c p2] X.env = (false, eval e X.env) :: starEach [.Name c p2] X.env := by rfl)
    (hs2 : starEach [.Name c p2] X.env = (false, eval (.Name c p2) X.env) :: starEach [] X.env := by rfl) (hpl : (backTo pos (starEach [.Name c p2] X.env)).any (·.1) = false := by rfl) :
    PE2 X (.Call (.Name "isinstance" p) [e, .Name c p2] [] pos) (uIsX x b te) := e_isX0 (dv := .ref D) y hk hp hcl xo hg hm (pe_glob hgc hmc rfl hd) (fun u r => r) h hs1 hs2 hpl
theorem e_isXv (y : TyX X.K C) (hk : PySem.W.kitOne X.K (.ref C) (.type "ValueError") = some b) (hp : (x, ox) ∈ X.pn) (hcl : ox.cls = .ref C) (xo : XOb ox)
    (hg : Gl X "isinstance") (hm : X.mg "isinstance" = none) (hgc : Gl X "ValueError") (hmc : X.mg "ValueError" = none) (h : PE2 X e te)
    (hs1 : starEach [e, .Name "ValueError" p2] X.env = (false, eval e X.env) :: starEach [.Name "ValueError" p2] X.env := by rfl)
    (hs2 : starEach [.Name "ValueError" p2] X.env = (false, eval (.Name "ValueError" p2) X.env) :: starEach [] X.env := by rfl) (hpl : (backTo pos (starEach [.Name "ValueError" p2] X.env)).any (·.1) = false := by rfl) :
    PE2 X (.Call (.Name "isinstance" p) [e, .Name "ValueError" p2] [] pos) (uIsX x b te) := e_isX0 (dv := .ty "ValueError") y hk hp hcl xo hg hm (pe_bltn hgc hmc (by rfl) rfl) (fun u r => r) h hs1 hs2 hpl
end
end L3
namespace L3
open PySem PySem.Spec L2
open PyProof.Rows hiding St
def rIndexT : V → List V → Hp → VK → Prop := fun x vs H Q => ∃ (l : Addr) (bs : List Bool) (j : Nat), x = .ref l ∧ vs = [.bl true] ∧ H l = some (.lst (bs.map .bl)) ∧ bs[j]? = some true ∧ (∀ m, m < j → bs[m]? = some false) ∧ Q (.int j) H
theorem vals_bl : ∀ {bs : List Bool} {us : List Value}, Vals (bs.map V.bl) us → us = bs.map Value.bool
  | [], _, .nil => rfl
  | b :: bs, _, .cons r t => by rw [vals_bl t, show _ = Value.bool b from r]; rfl
section
variable {X : Cx}
theorem mt_indexT : MtM X "list.index" rIndexT := by
  intro pins s σ H x vs v us Q I rx rv h
  obtain ⟨l, bs, j, rfl, rfl, hH, hj, hb, q⟩ := h
  cases rx
  obtain ⟨u, rfl, ru⟩ := rv.one
  cases ru
  obtain ⟨z, its, n, r, hl, e⟩ := I.lstM hH
  cases vals_bl r
  have hjl : j < bs.length := (List.getElem?_eq_some_iff.mp hj).1
  have hz : bs.length ≤ sizeLine := by have := z; simpa using this
  refine call_meets F.slot_list_index ⟨_, e, rfl⟩ F.entry_list_index (F.args_list_index_2 _ _) (SeqAt.list_indexAt l (bs.map Value.bool).toArray n none #[] (.bool true) (fun v => v == .bool true) j (by simpa using hjl) ?_ ?_ fun m hm hmj => ?_) ⟨e, fun y hy => ?_, ?_⟩
  · have : sizeLine < 2 ^ 62 := by decide
    omega
  · have := (List.getElem?_eq_some_iff.mp hj).2
    simp [this]
  · have := hb m hmj
    obtain ⟨h1, h2⟩ := List.getElem?_eq_some_iff.mp this
    simp [h2]
  · obtain ⟨b, _, rfl⟩ : ∃ b, b ∈ bs ∧ Value.bool b = y := by simpa using hy
    have : (Value.bool b == Value.bool true) = (b == true) := by cases b <;> rfl
    rw [this]
    exact SeqAt.EqAt.bool_bool b true
  · exact ⟨.int j, H, I.tok _, ⟨_, rfl⟩, q⟩
end
def m_indexT : M22 := fun w ws G Q => match w, ws with
  | .ref a, [.bl true] => ∃ (bs : List Bool) (j : Nat), G a = some (.lst (bs.map .bl)) ∧ bs[j]? = some true ∧ (∀ m, m < j → bs[m]? = some false) ∧ Q (.int j) G
  | _, _ => False
theorem reps_bl {K : PySem.W.Frag} {H : Hp} : ∀ {bs : List Bool} {vs : List V}, Reps K H (bs.map W.bl) vs → vs = bs.map V.bl
  | [], _, .nil => rfl
  | n :: ns, _, .cons r t => by cases r; rw [reps_bl t]; rfl
theorem le_indexT {K : PySem.W.Frag} (x : V) (xs : List V) (H : Hp) (Q : VK) (h : lowM K m_indexT x xs H Q) : rIndexT x xs H Q := by
  obtain ⟨w, ws, G, Q2, S, r1, r2, q, c⟩ := h
  unfold m_indexT at q
  split at q
  · obtain ⟨bs, j, e, hj, hb, q⟩ := q
    obtain ⟨v0, rfl, r0⟩ := r2.un1
    cases r0
    cases r1
    obtain ⟨vs, hv, rv⟩ := S _ _ e
    cases reps_bl rv
    exact ⟨_, bs, j, rfl, rfl, hv, hj, hb, c _ H _ G (.refl H) S (.int _) q⟩
  · exact False.elim q
section
variable {X : Cx} {o e : Expr} {to : TE2} {t : TA2} {apos cpos : Pos}
theorem e_m_indexT (ho : PE2 X o to) (ha : PA2 X [e] t) (hbase : attributeBase o "index" X.env (eval o X.env) = eval o X.env := by rfl)
    (hfew : ((backTo cpos (starEach [e] X.env)).all (fun x => !x.1) && (backToKw cpos (keywordEach [] X.env)).all (fun x => x.1.isSome) && decide (([e] : List Expr).length + ([] : List Keyword).length + (if ([] : List Keyword).isEmpty then 0 else 1) < 30)) = true := by rfl)
    (hline : (apos.endLine == cpos.line) = true := by rfl) (hs : starEach [e] X.env = (false, eval e X.env) :: starEach [] X.env := by rfl) : PE2 X (.Call (.Attribute o "index" apos) [e] [] cpos) (uBm m_indexT to t) :=
  e_bm PySem.F.slot_list_index PySem.F.type_list_index mt_indexT le_indexT ho ha hbase hfew hline hs rfl
end
end L3
namespace L3
open PySem PySem.Spec L2
open PyProof.Rows hiding St
def EqN0 (G : WH) (x y : W) : Prop := (∃ d, Den G x d ∧ Den G y d ∧ Dep 30 d) ∨ ∃ a, x = .ref a ∧ y = .ref a
def EqN1 (G : WH) (x y : W) : Prop := EqN0 G x y ∨ ∃ a b xs ys, x = .ref a ∧ y = .ref b ∧ G a = some (.lst xs) ∧ G b = some (.lst ys) ∧ Paired (EqN0 G) xs ys
def EqTop (G : WH) (x y : W) : Prop := (∃ a b xs ys, x = .ref a ∧ y = .ref b ∧ G a = some (.lst xs) ∧ G b = some (.lst ys) ∧ Paired (EqN1 G) xs ys) ∨ ∃ a, x = .ref a ∧ y = .ref a ∧ G a = some (.dct true [])
def eqS : R22 := fun x y G Q => eq2 true x y G Q ∨ (EqTop G x y ∧ Q (.bl false) G)
section
variable {A : Around} {s : Shared}
theorem lists_eq {a b : Addr} {x y : List Value} (p : s.heap.IsList a x.toArray) (q : s.heap.IsList b y.toArray) (h : Paired (fun u v => SeqAt.EqAt A.in1 s u v true) x y) (hu : A.units < cLine) : Both A s (.ref a) (.ref b) true := by
  have hl := Paired.len h
  have hs : x.toArray.size = y.toArray.size := by simpa using hl
  have he : ∀ j (h1 : j < x.toArray.size) (h2 : j < y.toArray.size), SeqAt.EqAt A.in1 s x.toArray[j] y.toArray[j] ((fun _ => true) j) := fun j h1 h2 => by
    have h1' : j < x.length := by simpa using h1
    have h2' : j < y.length := by simpa using h2
    have : ∀ {x y : List Value}, Paired (fun u v => SeqAt.EqAt A.in1 s u v true) x y → ∀ j (h1 : j < x.length) (h2 : j < y.length), SeqAt.EqAt A.in1 s x[j] y[j] true := by
      intro x y h
      induction h with
      | nil => intro j h1; simp at h1
      | cons a b ih =>
        intro j h1 h2
        cases j with
        | zero => exact a
        | succ j => exact ih j (by simpa using h1) (by simpa using h2)
    simpa using this h j h1' h2'
  have r1 := SeqAt.RcAt.lists p q hs hu he
  have r2 := SeqAt.RcNeAt.lists p q hs hu he
  have key : (List.range x.toArray.size).all (fun _ => true) = true := by simp
  rw [key] at r1 r2
  by_cases hab : a = b
  · subst hab; exact ⟨.same _, r1, r2⟩
  · exact ⟨.of_refs hab r1, r1, r2⟩
end
section
variable {X : Cx} {pins : List (Addr × Obj)} {σ : St} {H : Hp} {s : Shared} {G : WH} {A : Around}
theorem eqN0_at (I : Inv X pins σ H s) (S : Sim X.K G H) (hu : A.units + 31 < cLine) {x y : W} {x1 y1 : V} {u v : Value} (h : EqN0 G x y) (rx : Rep X.K H x x1) (ry : Rep X.K H y y1) (ru : RelV x1 u) (rv : RelV y1 v) : SeqAt.EqAt A s u v true := by
  rcases h with ⟨d, h1, h2, hd⟩ | ⟨a, rfl, rfl⟩
  · have B := both_deep s 30 A d d u v hd (h1.dv I S rx ru) (h2.dv I S ry rv) (by omega)
    rw [eqD_refl] at B
    exact B.eq
  · cases rx; cases ry; cases ru; cases rv
    exact .same _
theorem eqN0s_at (I : Inv X pins σ H s) (S : Sim X.K G H) (hu : A.units + 31 < cLine) : ∀ {xs ys : List W} {x1 y1 : List V} {us vs : List Value}, Paired (EqN0 G) xs ys → Reps X.K H xs x1 → Reps X.K H ys y1 → Vals x1 us → Vals y1 vs → Paired (fun u v => SeqAt.EqAt A s u v true) us vs
  | _, _, _, _, _, _, .nil, .nil, .nil, .nil, .nil => .nil
  | _, _, _, _, _, _, .cons h t, .cons a b, .cons c d, .cons e f, .cons g k => .cons (eqN0_at I S hu h a c e g) (eqN0s_at I S hu t b d f k)
theorem eqN1_at (I : Inv X pins σ H s) (S : Sim X.K G H) (hu : A.units + 32 < cLine) {x y : W} {x1 y1 : V} {u v : Value} (h : EqN1 G x y) (rx : Rep X.K H x x1) (ry : Rep X.K H y y1) (ru : RelV x1 u) (rv : RelV y1 v) : SeqAt.EqAt A s u v true := by
  rcases h with h | ⟨a, b, xs, ys, rfl, rfl, h1, h2, h3⟩
  · exact eqN0_at I S (by omega) h rx ry ru rv
  · cases rx; cases ry; cases ru; cases rv
    obtain ⟨vs1, hv1, r1⟩ := S _ _ h1
    obtain ⟨vs2, hv2, r2⟩ := S _ _ h2
    obtain ⟨i1, vv1, p1, _⟩ := I.list (.of hv1)
    obtain ⟨i2, vv2, p2, _⟩ := I.list (.of hv2)
    exact (lists_eq p1.isList p2.isList (eqN0s_at I S (A := A.in1) (by rw [units_in1]; omega) h3 r1 r2 vv1 vv2) (by omega)).eq
theorem eqN1s_at (I : Inv X pins σ H s) (S : Sim X.K G H) (hu : A.units + 32 < cLine) : ∀ {xs ys : List W} {x1 y1 : List V} {us vs : List Value}, Paired (EqN1 G) xs ys → Reps X.K H xs x1 → Reps X.K H ys y1 → Vals x1 us → Vals y1 vs → Paired (fun u v => SeqAt.EqAt A s u v true) us vs
  | _, _, _, _, _, _, .nil, .nil, .nil, .nil, .nil => .nil
  | _, _, _, _, _, _, .cons h t, .cons a b, .cons c d, .cons e f, .cons g k => .cons (eqN1_at I S hu h a c e g) (eqN1s_at I S hu t b d f k)
theorem keys0 {P : Program} {w : World} {K : Type} [DecidableEq K] (knd : KeyKind P w K) : KeysOf knd #[] := by
  intro i hi; simp at hi
theorem o_neS (hu : X.A.units + 40 < cLine) : OpR2 X (compareOp .NotEq) eqS := by
  rintro pins s σ H x y v u Q I rx ry ⟨w, w', G, Q2, S, r1, r2, q, c⟩
  rcases q with q | ⟨q, q2⟩
  · exact o_ne hu pins s σ H x y v u Q I rx ry ⟨w, w', G, Q2, S, r1, r2, q, c⟩
  have fin : EP X pins σ Q (.bool false) s := ⟨.bl false, H, I, rfl, c _ H _ G (.refl H) S (.bl _) q2⟩
  rcases q with ⟨a, b, xs, ys, rfl, rfl, h1, h2, h3⟩ | ⟨a, rfl, rfl, h1⟩
  · cases r1; cases r2; cases rx; cases ry
    obtain ⟨vs1, hv1, r1⟩ := S _ _ h1
    obtain ⟨vs2, hv2, r2⟩ := S _ _ h2
    obtain ⟨i1, vv1, p1, _⟩ := I.list (.of hv1)
    obtain ⟨i2, vv2, p2, _⟩ := I.list (.of hv2)
    exact (lists_eq p1.isList p2.isList (eqN1s_at I S (A := X.A.in1) (by rw [units_in1]; omega) h3 r1 r2 vv1 vv2) (by omega)).ne _ _ _ _ fin
  · cases r1; cases r2; cases rx; cases ry
    obtain ⟨ks, hk, hp⟩ := S _ _ h1
    cases hp
    obtain ⟨_, hsm, xs, hx, o, es, ep, g1, g2, g3, g4, g5⟩ := (show ObjOk X.prog X.w X.K H s.heap a (.dT []) from I.hok a _ hk)
    cases hx
    have e0 : es = #[] := by
      have e1 : es.toList = [] := g4
      cases es; cases e1; rfl
    subst e0
    have D : s.heap.DictOf (mixKind X.prog X.w) a [] := ⟨o, #[], ep, g1, g2, g3, keys0 _, .nil, List.nodup_nil⟩
    refine PySem.W.keq_ne (r := true) hsm hsm D D (by omega) (fun _ => .nil) ?_
    exact fin
theorem ss_ex {body : List Stmt} {p : Bool → Prop} {t : Bool → TS2} (h : ∀ b, p b → PSs2 X body (t b)) : PSs2 X body (fun D τ G => ∃ b, p b ∧ t b D τ G) := by
  simp only [PSs2] at *
  exact (fun pins s σ H D I ⟨τ, G, D2, hs, hg, ⟨b, hp, ht⟩, le⟩ => h b hp pins s σ H D I ⟨τ, G, D2, hs, hg, ht, le⟩)
end
theorem mro_of {K : PySem.W.Frag} {C : Addr} {v : Value} (e : PySem.W.mroIn K C v = some true) : (mroIn K C).contains v = true := by
  obtain ⟨cd, a, b⟩ := Option.bind_eq_some_iff.mp e
  split at b
  · cases b
  · unfold PySem.W.clsIn at a
    unfold mroIn
    split at a
    · rename_i ho
      cases a
      rw [ho]
      exact Option.some.inj b
    · cases a
end L3
set_option maxHeartbeats 1000000
namespace My
open PySem PySem.Spec L2 L3
open PyProof.Rows hiding St
structure Adr where
  f_law_cell_at : Addr
  d_law_cell_at : FuncData
  f_law_kept : Addr
  d_law_kept : FuncData
  f_law_no_ground : Addr
  d_law_no_ground : FuncData
  f_law_rows : Addr
  d_law_rows : FuncData
  f_is_whole : Addr
  d_is_whole : FuncData
  f_is_whole_pair : Addr
  d_is_whole_pair : FuncData
  f_check_dock : Addr
  d_check_dock : FuncData
  f_is_ground : Addr
  d_is_ground : FuncData
  f_check_grounds : Addr
  d_check_grounds : FuncData
  f_check_rows : Addr
  d_check_rows : FuncData
  f_check_floor : Addr
  d_check_floor : FuncData
  f_open_grounds : Addr
  d_open_grounds : FuncData
  f_Floor_init : Addr
  d_Floor_init : FuncData
  f_law_said : Addr
  d_law_said : FuncData
  f_law_spoilt : Addr
  d_law_spoilt : FuncData
  f_law : Addr
  d_law : FuncData
  c_Floor : Addr
  c_DustError : Addr
  c_BadFloor : Addr
  c_TooMany : Addr
  c_Clash : Addr
  c_NoDock : Addr
  c_NoRow : Addr
  c_NoText : Addr
  t_MOST_GROUNDS : Tok
def g_MOST_GROUNDS : W := .int 2500
abbrev RowVw := W ⊕ List W
abbrev RV := W ⊕ List RowVw
def K0 (G : WH) : W → Prop
  | .non => True
  | .bl _ => True
  | .int _ => True
  | .str _ => True
  | .tup _ => True
  | .ref a => (∃ xs, G a = some (.lst xs)) ∨ ∃ kvs, G a = some (.dct true kvs)
  | _ => False
def NL (G : WH) : W → Prop
  | .non => True
  | .bl _ => True
  | .int _ => True
  | .str _ => True
  | .tup _ => True
  | .ref a => ∃ kvs, G a = some (.dct true kvs)
  | _ => False
def SE (G : WH) (x : W) : Prop := (∃ d, Den G x d ∧ Dep 30 d) ∨ ∃ a, x = .ref a
def KnT (G : WH) (x : W) : Prop := K0 G x ∧ SE G x ∧ ∀ ys, x = .tup ys → ∀ y ∈ ys, K0 G y
def TopEq (G : WH) (w : W) : Prop := (∃ d, Den G w d ∧ Dep 40 d) ∨ ∃ a, w = .ref a ∧ G a = some (.dct true [])
def RowV (G : WH) (w : W) : RowVw → Prop
  | .inl x => w = x ∧ NL G x ∧ SE G x
  | .inr xs => ∃ b, w = .ref b ∧ G b = some (.lst xs) ∧ ∀ x ∈ xs, KnT G x
def VW (G : WH) (r : W) : RV → Prop
  | .inl x => r = x ∧ NL G x ∧ TopEq G x
  | .inr vs => ∃ a rs, r = .ref a ∧ G a = some (.lst rs) ∧ Paired (RowV G) rs vs
def isGr : W → Bool
  | .non => true
  | .tup [.int c, .int _] => decide (1 ≤ c)
  | _ => false
def isWh : W → Bool
  | .int _ => true
  | _ => false
def isPr : W → Bool
  | .tup [.int _, .int _] => true
  | _ => false
def rowOk (n : Nat) : RowVw → Bool
  | .inr ys => ys.length == n
  | .inl _ => false
def wid : List RowVw → Nat
  | .inr xs :: _ => xs.length
  | _ => 0
def okRows : RV → Bool
  | .inr vs => decide (0 < wid vs) && vs.all (rowOk (wid vs))
  | _ => false
def rowOf : RowVw → List W
  | .inr xs => xs
  | .inl _ => []
def xssOf : RV → List (List W)
  | .inr vs => vs.map rowOf
  | .inl _ => []
def gOk (xss : List (List W)) : Bool := xss.all fun xs => xs.all isGr
def dockOk (xss : List (List W)) : W → Bool
  | .tup [.int i, .int j] => decide (0 ≤ i) && (decide (i < xss.length) && (decide (0 ≤ j) && (decide (j < (xss.headD []).length) && decide ((xss.getD i.toNat []).getD j.toNat .non ≠ .non))))
  | _ => false
def vd2 (xss : List (List W)) (d : W) : Nat := if gOk xss = true then (if dockOk xss d = true then (if 2500 < xss.length * (xss.headD []).length then 2 else 0) else 1) else 1
def vd (v : RV) (d : W) : Nat := if okRows v = true then vd2 (xssOf v) d else 1
def Sml : RV → Prop
  | .inr vs => vs.length ≤ 3000 ∧ ∀ xs, Sum.inr xs ∈ vs → xs.length ≤ 3000
  | .inl _ => True
structure Grid (G : WH) (a : Addr) (bs : List Addr) (xss : List (List W)) : Prop where
  ha : G a = some (.lst (bs.map .ref))
  hp : Paired (fun b xs => G b = some (.lst xs)) bs xss
  nd : (a :: bs).Nodup
def Even (xss : List (List W)) (n : Nat) : Prop := xss ≠ [] ∧ 0 < n ∧ ∀ xs ∈ xss, xs.length = n
structure Fine (xss : List (List W)) (n : Nat) (i j : Int) : Prop where
  ev : Even xss n
  l1 : xss.length ≤ 6
  l2 : n ≤ 6
  gr : gOk xss = true
  dk : dockOk xss (.tup [.int i, .int j]) = true
def wordOf : Nat → Str
  | 0 => "made"
  | 1 => "bad"
  | _ => "many"
def flatW : W → Bool
  | .non => true
  | .bl _ => true
  | .int _ => true
  | .str _ => true
  | _ => false
def plain1 : W → Bool
  | .tup zs => zs.all flatW
  | y => flatW y
def plainW : W → Bool
  | .tup ys => ys.all plain1
  | y => flatW y
def sp_law_cell_at (_ : Adr) : Sp2 := fun ws G Q E => ∃ (ns : List Int) (k : Nat), ws = [.scr (ns.map .int), .int k] ∧ Q (.int (cellAt ns k)) G
def sp_law_kept (_ : Adr) : Sp2 := fun ws G Q E => ∃ w v, ws = [w] ∧ VW G w v ∧ Sml v ∧ ∀ G' y, Ext G G' → VW G' y v → Q y G'
def sp_law_no_ground (_ : Adr) : Sp2 := fun ws G Q E => ∃ c : Int, ws = [.int c] ∧ ∀ G' x, Ext G G' → KnT G' x → isGr x = false → (plainW x = true ∨ ∃ l, x = .ref l) → Q x G'
def sp_law_rows (_ : Adr) : Sp2 := fun ws G Q E => ∃ (c : Int) (m n : Nat), ws = [.int c, .int m, .int n] ∧ m ≤ 6 ∧ n ≤ 6 ∧ ∀ G' a bs xss, Ext G G' → Grid G' a bs xss → xss.length = m → (∀ xs ∈ xss, xs.length = n) → gOk xss = true → Q (.ref a) G'
def sp_is_whole (_ : Adr) : Sp2 := fun ws G Q E => ∃ w, ws = [w] ∧ K0 G w ∧ Q (.bl (isWh w)) G
def sp_is_whole_pair (_ : Adr) : Sp2 := fun ws G Q E => ∃ w, ws = [w] ∧ KnT G w ∧ Q (.bl (isPr w)) G
def sp_is_ground (_ : Adr) : Sp2 := fun ws G Q E => ∃ w, ws = [w] ∧ KnT G w ∧ Q (.bl (isGr w)) G
def sp_check_rows (A : Adr) : Sp2 := fun ws G Q E => ∃ r v, ws = [r] ∧ VW G r v ∧ (okRows v = true → Q .non G) ∧ (okRows v = false → E (.ref A.c_BadFloor) [] G)
def sp_check_grounds (A : Adr) : Sp2 := fun ws G Q E => ∃ r xss, ws = [r] ∧ VW G r (.inr (xss.map .inr)) ∧ (gOk xss = true → Q .non G) ∧ (gOk xss = false → E (.ref A.c_BadFloor) [] G)
def sp_check_dock (A : Adr) : Sp2 := fun ws G Q E => ∃ r d xss n, ws = [r, d] ∧ VW G r (.inr (xss.map .inr)) ∧ Even xss n ∧ KnT G d ∧ (dockOk xss d = true → Q .non G) ∧ (dockOk xss d = false → E (.ref A.c_BadFloor) [] G)
def sp_check_floor (A : Adr) : Sp2 := fun ws G Q E => ∃ r d v, ws = [r, d] ∧ VW G r v ∧ Sml v ∧ KnT G d ∧ (vd v d = 0 → Q .non G) ∧ (vd v d = 1 → E (.ref A.c_BadFloor) [] G) ∧ (vd v d = 2 → E (.ref A.c_TooMany) [] G)
def sp_open_grounds (_ : Adr) : Sp2 := fun ws G Q E => ∃ r i j xss n, ws = [r, .tup [.int i, .int j]] ∧ VW G r (.inr (xss.map .inr)) ∧ Even xss n ∧ xss.length * n ≤ 2500 ∧ ∀ G' p, Ext G G' → Q (.ref p) G'
def sp_Floor_init (A : Adr) : Sp2 := fun ws G Q E => ∃ x r d v, ws = [.ref x, r, d] ∧ G x = some (.ins A.c_Floor []) ∧ VW G r v ∧ Sml v ∧ KnT G d ∧ (vd v d = 0 → ∀ G', (∀ b o, b ≠ x → G b = some o → G' b = some o) → Q .non G') ∧ (vd v d = 1 → E (.ref A.c_BadFloor) [] G) ∧ (vd v d = 2 → E (.ref A.c_TooMany) [] G)
def sp_law_said (A : Adr) : Sp2 := fun ws G Q E => ∃ r d v, ws = [r, d] ∧ VW G r v ∧ Sml v ∧ KnT G d ∧ ∀ G', Ext G G' → Q (.str (wordOf (vd v d))) G'
def sp_law_spoilt (_ : Adr) : Sp2 := fun ws G Q E => ∃ a bs xss n i j c, ws = [.ref a, .tup [.int i, .int j], .int c] ∧ Grid G a bs xss ∧ Fine xss n i j ∧ ∀ G' w d v, Ext G G' → VW G' w v → Sml v → KnT G' d → vd v d = 1 → Q (.tup [w, d]) G'
def sp_law0 : Sp2 := fun ws G Q _ => ∃ ns : List Int, ws = [.scr (ns.map .int)] ∧ ns.length ≤ 63 ∧ ∀ G', Q (.bl true) G'
def sp_law (_ : Adr) : Sp2 := sp_law0
def rd_law_cell_at (A : Adr) : TS2 :=
  (uSeq (uIfS (uTest (uOp iLt (uVar 1) (uBlt b_len (uCons (uVar 0) uNil)))) (uRet (uOp ix2 (uVar 0) (uVar 1))) uNext) (uRet (uC (.int 0))))
def rd_law_kept (A : Adr) : TS2 :=
  (uSeq (uIfS (uNot (uTest (uIsI "list" (uVar 0)))) (uRet (uVar 0)) uNext)
  (uRet (uComp (iSeq2 (uVar 0)) (uName 0) uTrue (uIf (uTest (uIsI "list" (uVar 0))) (uBlt b_list (uCons (uVar 0) uNil)) (uVar 0)) [none])))
def rd_law_no_ground_1 (A : Adr) : TS2 :=
  (uSeq
  (uAsg (uOp add2 (uVar 1) (uLst (uCons (uC (.str "#")) (uCons (uC (.str "?")) (uCons (uC (.int 0)) (uCons (uC (.int 5)) (uCons (uTup uNil) (uCons (uTup (uCons (uC (.str "1")) (uCons (uC (.int 0)) uNil))) (uCons (uTup (uCons (uC (.int 1)) (uCons (uC (.str "0")) uNil))) (uCons (uTup (uCons (uC (.int 1)) (uCons (uTup (uCons (uC (.int 0)) uNil)) uNil))) (uCons (uDNew true) (uCons (uC (.bl true)) uNil)))))))))))) (uName 1))
  (uRet (uOp ix2 (uVar 1) (uOp iMod (uVar 0) (uBlt b_len (uCons (uVar 1) uNil))))))
def rd_law_no_ground_2 (A : Adr) : TS2 :=
  (uSeq
  (uAsg (uOp add2 (uVar 1) (uLst (uCons (uTup (uCons (uC (.bl true)) (uCons (uC (.int 0)) uNil))) (uCons (uTup (uCons (uC (.int 1)) (uCons (uC (.bl false)) uNil))) (uCons (uTup (uCons (uC .non) (uCons (uC (.int 0)) uNil))) (uCons (uTup (uCons (uC (.int 1)) (uCons (uC .non) uNil))) uNil)))))) (uName 1)) (rd_law_no_ground_1 A))
def rd_law_no_ground (A : Adr) : TS2 :=
  (uSeq
  (uAsg (uLst (uCons (uLst (uCons (uC (.int 1)) (uCons (uC (.int 0)) uNil))) (uCons (uTup (uCons (uC (.int 1)) uNil)) (uCons (uTup (uCons (uC (.int 1)) (uCons (uC (.int 0)) (uCons (uC (.int 0)) uNil)))) (uCons (uTup (uCons (uC (.int 0)) (uCons (uC (.int 0)) uNil))) (uCons (uTup (uCons (uOp iSub (uOp iSub (uC (.int 0)) (uC (.int 1))) (uOp iMod (uVar 0) (uOp iPow (uC (.int 10)) (uC (.int 20))))) (uCons (uC (.int 0)) uNil))) uNil)))))) (uName 1)) (rd_law_no_ground_2 A))
def rd_law_rows_1 (A : Adr) : TS2 :=
  (uDrop (uBm m_append (uVar 4) (uCons (uVar 6) uNil)))
def rd_law_rows_2 (A : Adr) : TS2 :=
  (uDrop (uBm m_append (uVar 6) (uCons (uOp ix2 (uLst (uCons (uC .non) (uCons (uTup (uCons (uOp add2 (uC (.int 1)) (uOp iMod (uOp iDiv (uVar 3) (uC (.int 3))) (uC (.int 9)))) (uCons (uOp iSub (uOp iMod (uOp iDiv (uVar 3) (uC (.int 27))) (uC (.int 5))) (uC (.int 2))) uNil))) (uCons (uTup (uCons (uC (.int 1)) (uCons (uC (.int 0)) uNil))) uNil)))) (uOp iMod (uVar 3) (uC (.int 3)))) uNil)))
def rd_law_rows_3 (A : Adr) : TS2 :=
  (uSeq
  (uAsg (uOp iMod (uOp add2 (uOp add2 (uOp mul2 (uVar 3) (uVar 3)) (uOp mul2 (uC (.int 48271)) (uVar 3))) (uVar 7)) (uC (.int 2147483647))) (uName 3)) (rd_law_rows_2 A))
def rd_law_rows_4 (A : Adr) : TS2 :=
  (uSeq (uForR1 (uCons (uVar 2) uNil) (uName 7) (rd_law_rows_3 A)) (rd_law_rows_1 A))
def rd_law_rows_5 (A : Adr) : TS2 :=
  (uSeq (uAsg (uLst uNil) (uName 6)) (rd_law_rows_4 A))
def rd_law_rows_6 (A : Adr) : TS2 :=
  (uSeq (uForR1 (uCons (uVar 1) uNil) (uName 5) (rd_law_rows_5 A)) (uRet (uVar 4)))
def rd_law_rows_7 (A : Adr) : TS2 :=
  (uSeq (uAsg (uLst uNil) (uName 4)) (rd_law_rows_6 A))
def rd_law_rows (A : Adr) : TS2 :=
  (uSeq (uAsg (uOp add2 (uOp iMod (uVar 0) (uC (.int 2147483647))) (uC (.int 48271))) (uName 3)) (rd_law_rows_7 A))
def rd_is_whole (A : Adr) : TS2 :=
  (uRet (uAndV (uIsI "int" (uVar 0)) (uNotV (uIsI "bool" (uVar 0)))))
def rd_is_whole_pair (A : Adr) : TS2 :=
  (uRet (uAndV (uIsI "tuple" (uVar 0)) (uAndV (uOp (eq2 false) (uBlt b_len (uCons (uVar 0) uNil)) (uC (.int 2))) (uAndV (uCall (sp_is_whole A) [] (uCons (uOp ix2 (uVar 0) (uC (.int 0))) uNil)) (uCall (sp_is_whole A) [] (uCons (uOp ix2 (uVar 0) (uC (.int 1))) uNil))))))
def rd_check_dock_1 (A : Adr) (E : XK2) : TS2 :=
  (uIfS (uTest (uOp (isN2 false) (uOp ix2 (uOp ix2 (uVar 0) (uOp ix2 (uVar 1) (uC (.int 0)))) (uOp ix2 (uVar 1) (uC (.int 1)))) (uC .non))) (uRaise (fun _ => E) A.c_BadFloor (uCons (uC (.str "the dock is no wall")) uNil)) uNext)
def rd_check_dock_2 (A : Adr) (E : XK2) : TS2 :=
  (uSeq
  (uIfS (uOr (uTest (uOp iLt (uOp ix2 (uVar 1) (uC (.int 0))) (uC (.int 0)))) (uOr (uTest (uOp iGe (uOp ix2 (uVar 1) (uC (.int 0))) (uBlt b_len (uCons (uVar 0) uNil)))) (uOr (uTest (uOp iLt (uOp ix2 (uVar 1) (uC (.int 1))) (uC (.int 0)))) (uTest (uOp iGe (uOp ix2 (uVar 1) (uC (.int 1))) (uBlt b_len (uCons (uOp ix2 (uVar 0) (uC (.int 0))) uNil))))))) (uRaise (fun _ => E) A.c_BadFloor (uCons (uC (.str "the dock is a place of the rows")) uNil)) uNext) (rd_check_dock_1 A E))
def rd_check_dock (A : Adr) (E : XK2) : TS2 :=
  (uSeq
  (uIfS (uNot (uTest (uCall (sp_is_whole_pair A) [] (uCons (uVar 1) uNil)))) (uRaise (fun _ => E) A.c_BadFloor (uCons (uC (.str "the dock is a tuple of the number of a row and of a place in it")) uNil)) uNext) (rd_check_dock_2 A E))
def rd_is_ground (A : Adr) : TS2 :=
  (uRet (uOrV (uOp (isN2 false) (uVar 0) (uC .non)) (uAndV (uCall (sp_is_whole_pair A) [] (uCons (uVar 0) uNil)) (uOp iGe (uOp ix2 (uVar 0) (uC (.int 0))) (uC (.int 1))))))
def rd_check_grounds_1 (A : Adr) (E : XK2) : TS2 :=
  (uIfS (uNot (uTest (uCall (sp_is_ground A) [] (uCons (uVar 2) uNil)))) (uRaise (fun _ => E) A.c_BadFloor (uCons (uC (.str "a ground is None or a tuple of a cost from 1 on and a height")) uNil)) uNext)
def rd_check_grounds_2 (A : Adr) (E : XK2) : TS2 :=
  (uFor (uVar 1) (uName 2) (rd_check_grounds_1 A E))
def rd_check_grounds (A : Adr) (E : XK2) : TS2 :=
  (uFor (uVar 0) (uName 1) (rd_check_grounds_2 A E))
def rd_check_rows_1 (A : Adr) (E : XK2) : TS2 :=
  (uIfS (uTest (uOp eqS (uBlt b_len (uCons (uVar 1) uNil)) (uBlt b_len (uCons (uOp ix2 (uVar 0) (uC (.int 0))) uNil)))) (uRaise (fun _ => E) A.c_BadFloor (uCons (uC (.str "all rows are of one length")) uNil)) uNext)
def rd_check_rows_2 (A : Adr) (E : XK2) : TS2 :=
  (uSeq
  (uIfS (uOr (uNot (uTest (uIsI "list" (uVar 1)))) (uTest (uOp (eq2 false) (uBlt b_len (uCons (uVar 1) uNil)) (uC (.int 0))))) (uRaise (fun _ => E) A.c_BadFloor (uCons (uC (.str "a row is a list of one or more grounds")) uNil)) uNext) (rd_check_rows_1 A E))
def rd_check_rows_3 (A : Adr) (E : XK2) : TS2 :=
  (uFor (uVar 0) (uName 1) (rd_check_rows_2 A E))
def rd_check_rows (A : Adr) (E : XK2) : TS2 :=
  (uSeq
  (uIfS (uOr (uNot (uTest (uIsI "list" (uVar 0)))) (uTest (uOp (eq2 false) (uBlt b_len (uCons (uVar 0) uNil)) (uC (.int 0))))) (uRaise (fun _ => E) A.c_BadFloor (uCons (uC (.str "the rows are a list of one or more rows")) uNil)) uNext) (rd_check_rows_3 A E))
def rd_check_floor_1 (A : Adr) (E : XK2) : TS2 :=
  (uIfS (uTest (uOp iGt (uOp mul2 (uBlt b_len (uCons (uVar 0) uNil)) (uBlt b_len (uCons (uOp ix2 (uVar 0) (uC (.int 0))) uNil))) (uC g_MOST_GROUNDS))) (uRaise (fun _ => E) A.c_TooMany (uCons (uC (.str "a floor has at most 2,500 grounds")) uNil)) uNext)
def rd_check_floor_2 (A : Adr) (E : XK2) : TS2 :=
  (uSeq (uDrop (uCallX (fun _ => E) (sp_check_dock A) (uCons (uVar 0) (uCons (uVar 1) uNil)))) (rd_check_floor_1 A E))
def rd_check_floor_3 (A : Adr) (E : XK2) : TS2 :=
  (uSeq (uDrop (uCallX (fun _ => E) (sp_check_grounds A) (uCons (uVar 0) uNil))) (rd_check_floor_2 A E))
def rd_check_floor (A : Adr) (E : XK2) : TS2 :=
  (uSeq (uDrop (uCallX (fun _ => E) (sp_check_rows A) (uCons (uVar 0) uNil))) (rd_check_floor_3 A E))
def rd_open_grounds_1 (A : Adr) : TS2 :=
  (uIfS (uTest (uOp (isN2 true) (uVar 6) (uC .non)))
  (uAsg (uVar 6) (uGSub (uVar 2) (uTup (uCons (uOp iSub (uVar 3) (uOp ix2 (uVar 1) (uC (.int 0)))) (uCons (uOp iSub (uVar 5) (uOp ix2 (uVar 1) (uC (.int 1)))) uNil))))) uNext)
def rd_open_grounds_2 (A : Adr) : TS2 :=
  (uForI (i_enumerate1 (uCons (uVar 4) uNil)) (uGTup 2 (uGCons (uName 5) (uGCons (uName 6) uGNil))) (rd_open_grounds_1 A))
def rd_open_grounds_3 (A : Adr) : TS2 :=
  (uSeq (uForI (i_enumerate1 (uCons (uVar 0) uNil)) (uGTup 2 (uGCons (uName 3) (uGCons (uName 4) uGNil))) (rd_open_grounds_2 A))
  (uRet (uVar 2)))
def rd_open_grounds (A : Adr) : TS2 :=
  (uSeq (uAsg (uDNew true) (uName 2)) (rd_open_grounds_3 A))
def rd_Floor_init_1 (A : Adr) (E : XK2) : TS2 :=
  (uSFld A.c_Floor "grounds" (uVar 0) (uCall (sp_open_grounds A) [] (uCons (uVar 1) (uCons (uVar 2) uNil))))
def rd_Floor_init_2 (A : Adr) (E : XK2) : TS2 :=
  (uSeq (uSFld A.c_Floor "dock_place" (uVar 0) (uVar 2)) (rd_Floor_init_1 A E))
def rd_Floor_init_3 (A : Adr) (E : XK2) : TS2 :=
  (uSeq
  (uSFld A.c_Floor "row_lists" (uVar 0) (uComp (iSeq2 (uVar 1)) (uName 0) uTrue (uBlt b_list (uCons (uVar 0) uNil)) [none])) (rd_Floor_init_2 A E))
def rd_Floor_init (A : Adr) (E : XK2) : TS2 :=
  (uSeq (uDrop (uCallX (fun _ => E) (sp_check_floor A) (uCons (uVar 1) (uCons (uVar 2) uNil)))) (rd_Floor_init_3 A E))
def rd_law_spoilt_1 (A : Adr) : TS2 :=
  (uSeq (uAsg (uC .non) (uGSub (uOp ix2 (uVar 8) (uOp ix2 (uVar 1) (uC (.int 0)))) (uOp ix2 (uVar 1) (uC (.int 1)))))
  (uRet (uTup (uCons (uVar 8) (uCons (uVar 1) uNil)))))
def rd_law_spoilt_2 (A : Adr) : TS2 :=
  (uSeq (uAsg (uComp (iSeq2 (uVar 0)) (uName 0) uTrue (uBlt b_list (uCons (uVar 0) uNil)) [none]) (uName 8)) (rd_law_spoilt_1 A))
def rd_law_spoilt_3 (A : Adr) : TS2 :=
  (uSeq (uIfS (uTest (uOp (eq2 false) (uVar 5) (uC (.int 5)))) (uSeq
  (uAsg (uOp ix2 (uLst (uCons (uTup (uCons (uOp iSub (uC (.int 0)) (uC (.int 1))) (uCons (uOp ix2 (uVar 1) (uC (.int 1))) uNil))) (uCons (uTup (uCons (uOp ix2 (uVar 1) (uC (.int 0))) (uCons (uOp iSub (uC (.int 0)) (uC (.int 1))) uNil))) (uCons (uTup (uCons (uBlt b_len (uCons (uVar 0) uNil)) (uCons (uOp ix2 (uVar 1) (uC (.int 1))) uNil))) (uCons (uTup (uCons (uOp ix2 (uVar 1) (uC (.int 0))) (uCons (uBlt b_len (uCons (uVar 4) uNil)) uNil))) uNil))))) (uOp iMod (uOp iDiv (uVar 2) (uC (.int 49))) (uC (.int 4)))) (uName 7))
  (uRet (uTup (uCons (uVar 0) (uCons (uVar 7) uNil))))) uNext) (rd_law_spoilt_2 A))
def rd_law_spoilt_4 (A : Adr) : TS2 :=
  (uSeq (uIfS (uTest (uOp (eq2 false) (uVar 5) (uC (.int 4)))) (uSeq
  (uAsg (uOp ix2 (uLst (uCons (uBlt b_list (uCons (uVar 1) uNil)) (uCons (uTup (uCons (uOp ix2 (uVar 1) (uC (.int 0))) uNil)) (uCons (uOp add2 (uVar 1) (uTup (uCons (uC (.int 0)) uNil))) (uCons (uC .non) (uCons (uTup (uCons (uC (.bl true)) (uCons (uOp ix2 (uVar 1) (uC (.int 1))) uNil))) (uCons (uTup (uCons (uOp ix2 (uVar 1) (uC (.int 0))) (uCons (uC .non) uNil))) (uCons (uC (.int 0)) (uCons (uC (.str "dock")) uNil))))))))) (uOp iMod (uOp iDiv (uVar 2) (uC (.int 49))) (uC (.int 8)))) (uName 7))
  (uRet (uTup (uCons (uVar 0) (uCons (uVar 7) uNil))))) uNext) (rd_law_spoilt_3 A))
def rd_law_spoilt_5 (A : Adr) : TS2 :=
  (uSeq (uIfS (uTest (uOp (eq2 false) (uVar 5) (uC (.int 3))))
  (uRet (uTup (uCons (uOp ix2 (uLst (uCons (uLst uNil) (uCons (uC .non) (uCons (uBlt b_tuple (uCons (uVar 0) uNil)) (uCons (uDNew true) (uCons (uLst (uCons (uLst uNil) uNil)) (uCons (uLst (uCons (uLst uNil) (uCons (uLst uNil) uNil))) (uCons (uOp ix2 (uVar 0) (uC (.int 0))) (uCons (uC (.str "rows")) uNil))))))))) (uOp iMod (uOp iDiv (uVar 2) (uC (.int 49))) (uC (.int 8)))) (uCons (uVar 1) uNil)))) uNext) (rd_law_spoilt_4 A))
def rd_law_spoilt_6 (A : Adr) : TS2 :=
  (uSeq (uIfS (uAnd (uTest (uOp (eq2 false) (uBlt b_len (uCons (uVar 0) uNil)) (uC (.int 1)))) (uTest (uIsI "list" (uVar 7))))
  (uAsg (uBlt b_tuple (uCons (uVar 7) uNil)) (uName 7)) uNext)
  (uRet (uTup (uCons (uOp add2 (uOp add2 (uSlice (uVar 0) uNoPart (uPart (uVar 3))) (uLst (uCons (uVar 7) uNil))) (uSlice (uVar 0) (uPart (uOp add2 (uVar 3) (uC (.int 1)))) uNoPart)) (uCons (uVar 1) uNil)))))
def rd_law_spoilt_7 (A : Adr) : TS2 :=
  (uSeq (uIfS (uTest (uOp (eq2 false) (uVar 5) (uC (.int 2)))) (uSeq
  (uAsg (uOp ix2 (uLst (uCons (uOp add2 (uVar 4) (uLst (uCons (uC .non) uNil))) (uCons (uOp add2 (uVar 4) (uLst (uCons (uTup (uCons (uC (.int 1)) (uCons (uC (.int 0)) uNil))) uNil))) (uCons (uBlt b_tuple (uCons (uVar 4) uNil)) (uCons (uC .non) (uCons (uDNew true) (uCons (uC (.str "row")) uNil))))))) (uOp iMod (uOp iDiv (uVar 2) (uC (.int 49))) (uC (.int 6)))) (uName 7)) (rd_law_spoilt_6 A)) uNext) (rd_law_spoilt_5 A))
def rd_law_spoilt_8 (A : Adr) : TS2 :=
  (uSeq
  (uAsg (uOp add2 (uOp add2 (uSlice (uVar 4) uNoPart (uPart (uVar 6))) (uLst (uCons (uCall (sp_law_no_ground A) [] (uCons (uOp iDiv (uVar 2) (uC (.int 343))) uNil)) uNil))) (uSlice (uVar 4) (uPart (uOp add2 (uVar 6) (uC (.int 1)))) uNoPart)) (uName 7))
  (uRet (uTup (uCons (uOp add2 (uOp add2 (uSlice (uVar 0) uNoPart (uPart (uVar 3))) (uLst (uCons (uVar 7) uNil))) (uSlice (uVar 0) (uPart (uOp add2 (uVar 3) (uC (.int 1)))) uNoPart)) (uCons (uVar 1) uNil)))))
def rd_law_spoilt_9 (A : Adr) : TS2 :=
  (uSeq (uIfS (uTest (uOp iLt (uVar 5) (uC (.int 2)))) (uSeq
  (uAsg (uOp iMod (uOp iDiv (uVar 2) (uC (.int 49))) (uBlt b_len (uCons (uVar 4) uNil))) (uName 6)) (rd_law_spoilt_8 A)) uNext) (rd_law_spoilt_7 A))
def rd_law_spoilt_10 (A : Adr) : TS2 :=
  (uSeq (uAsg (uOp iMod (uVar 2) (uC (.int 7))) (uName 5)) (rd_law_spoilt_9 A))
def rd_law_spoilt_11 (A : Adr) : TS2 :=
  (uSeq (uAsg (uOp ix2 (uVar 0) (uVar 3)) (uName 4)) (rd_law_spoilt_10 A))
def rd_law_spoilt (A : Adr) : TS2 :=
  (uSeq (uAsg (uOp iMod (uOp iDiv (uVar 2) (uC (.int 7))) (uBlt b_len (uCons (uVar 0) uNil))) (uName 3)) (rd_law_spoilt_11 A))
def rd_law_1 (A : Adr) : TS2 :=
  (uAsg (uC (.str "bad")) (uName 12))
def rd_law_2 (A : Adr) : TS2 :=
  (uSeq (uIfS (uTest (uOp (eq2 false) (uOp iMod (uOp iDiv (uVar 9) (uC (.int 8))) (uC (.int 3))) (uC (.int 1)))) (uSeq
  (uAsg (uCall (sp_law_no_ground A) [] (uCons (uOp iDiv (uVar 9) (uC (.int 24))) uNil)) (uGSub (uOp ix2 (uVar 11) (uNeg (uC (.int 1)))) (uNeg (uC (.int 1))))) (rd_law_1 A)) uNext)
  (uRet (uOp (eq2 false) (uCall (sp_law_said A) [] (uCons (uVar 11) (uCons (uTup (uCons (uC (.int 0)) (uCons (uC (.int 0)) uNil))) uNil))) (uVar 12))))
def rd_law_3 (A : Adr) : TS2 :=
  (uSeq
  (uAsg (uOp ix2 (uLst (uCons (uC (.str "made")) (uCons (uC (.str "many")) uNil))) (uOp iDiv (uOp iMod (uVar 9) (uC (.int 8))) (uC (.int 4)))) (uName 12)) (rd_law_2 A))
def rd_law_4 (A : Adr) : TS2 :=
  (uSeq
  (uAsg (uComp (iR1 (uCons (uOp ix2 (uVar 10) (uC (.int 0))) uNil)) (uName 0) uTrue (uOp mul2 (uLst (uCons (uTup (uCons (uC (.int 1)) (uCons (uC (.int 0)) uNil))) uNil)) (uOp ix2 (uVar 1) (uC (.int 1)))) [none, some 10]) (uName 11)) (rd_law_3 A))
def rd_law_5 (A : Adr) : TS2 :=
  (uSeq
  (uAsg (uOp ix2 (uLst (uCons (uTup (uCons (uC (.int 50)) (uCons (uC (.int 50)) uNil))) (uCons (uTup (uCons (uC (.int 1)) (uCons (uC (.int 2500)) uNil))) (uCons (uTup (uCons (uC (.int 2500)) (uCons (uC (.int 1)) uNil))) (uCons (uTup (uCons (uC (.int 25)) (uCons (uC (.int 100)) uNil))) (uCons (uTup (uCons (uC (.int 2501)) (uCons (uC (.int 1)) uNil))) (uCons (uTup (uCons (uC (.int 1)) (uCons (uC (.int 2501)) uNil))) (uCons (uTup (uCons (uC (.int 51)) (uCons (uC (.int 50)) uNil))) (uCons (uTup (uCons (uC (.int 2)) (uCons (uC (.int 1251)) uNil))) uNil))))))))) (uOp iMod (uVar 9) (uC (.int 8)))) (uName 10)) (rd_law_4 A))
def rd_law_6 (A : Adr) : TS2 :=
  (uSeq (uAsg (uCall (sp_law_cell_at A) [] (uCons (uVar 0) (uCons (uC (.int 4)) uNil))) (uName 9)) (rd_law_5 A))
def rd_law_7 (A : Adr) : TS2 :=
  (uIfS (uOr (uTest (uOp eqS (uCall (sp_law_said A) [] (uCons (uVar 7) (uCons (uVar 6) uNil))) (uC (.str "bad")))) (uOr (uTest (uOp eqS (uCall (sp_law_kept A) [] (uCons (uVar 7) uNil)) (uVar 5))) (uTest (uOp eqS (uCall (sp_law_said A) [] (uCons (uVar 3) (uCons (uVar 4) uNil))) (uC (.str "made"))))))
  (uRet (uC (.bl false))) uNext)
def rd_law_8 (A : Adr) : TS2 :=
  (uSeq (uForR1 (uCons (uC (.int 2)) uNil) (uName 8) (rd_law_7 A)) (rd_law_6 A))
def rd_law_9 (A : Adr) : TS2 :=
  (uSeq (uAsg (uCall (sp_law_kept A) [] (uCons (uVar 5) uNil)) (uName 7)) (rd_law_8 A))
def rd_law_10 (A : Adr) : TS2 :=
  (uSeq
  (uAsg (uCall (sp_law_spoilt A) [] (uCons (uVar 3) (uCons (uVar 4) (uCons (uCall (sp_law_cell_at A) [] (uCons (uVar 0) (uCons (uC (.int 3)) uNil))) uNil)))) (uGTup 2 (uGCons (uName 5) (uGCons (uName 6) uGNil)))) (rd_law_9 A))
def rd_law_11 (A : Adr) : TS2 :=
  (uSeq
  (uAsg (uTup (uCons (uOp add2 (uC (.int 1)) (uOp iMod (uOp iDiv (uCall (sp_law_cell_at A) [] (uCons (uVar 0) (uCons (uC (.int 2)) uNil))) (uC (.int 36))) (uOp iPow (uC (.int 10)) (uC (.int 30))))) (uCons (uC (.int 0)) uNil))) (uGSub (uOp ix2 (uVar 3) (uOp ix2 (uVar 4) (uC (.int 0)))) (uOp ix2 (uVar 4) (uC (.int 1))))) (rd_law_10 A))
def rd_law_12 (A : Adr) : TS2 :=
  (uSeq
  (uAsg (uTup (uCons (uOp iMod (uCall (sp_law_cell_at A) [] (uCons (uVar 0) (uCons (uC (.int 2)) uNil))) (uVar 1)) (uCons (uOp iMod (uOp iDiv (uCall (sp_law_cell_at A) [] (uCons (uVar 0) (uCons (uC (.int 2)) uNil))) (uC (.int 6))) (uVar 2)) uNil))) (uName 4)) (rd_law_11 A))
def rd_law_13 (A : Adr) : TS2 :=
  (uSeq
  (uAsg (uCall (sp_law_rows A) [] (uCons (uCall (sp_law_cell_at A) [] (uCons (uVar 0) (uCons (uC (.int 1)) uNil))) (uCons (uVar 1) (uCons (uVar 2) uNil)))) (uName 3)) (rd_law_12 A))
def rd_law_14 (A : Adr) : TS2 :=
  (uSeq
  (uAsg (uOp add2 (uC (.int 1)) (uOp iMod (uOp iDiv (uCall (sp_law_cell_at A) [] (uCons (uVar 0) (uCons (uC (.int 0)) uNil))) (uC (.int 6))) (uC (.int 6)))) (uName 2)) (rd_law_13 A))
def rd_law (A : Adr) : TS2 :=
  (uSeq
  (uAsg (uOp add2 (uC (.int 1)) (uOp iMod (uCall (sp_law_cell_at A) [] (uCons (uVar 0) (uCons (uC (.int 0)) uNil))) (uC (.int 6)))) (uName 1)) (rd_law_14 A))
def rd_said_th (x : Addr) (b : Bool) : TS2 :=
  (uSeq (uAsg (uLst (uCons (uIsX x b (uVar 3)) (uCons (uIsX x (!b) (uVar 3)) (uCons (uIsX x false (uVar 3)) (uCons (uIsX x false (uVar 3)) uNil))))) (uName 4))
  (uSeq (uAsg (uOp add2 (uVar 4) (uLst (uCons (uIsX x false (uVar 3)) (uCons (uIsX x false (uVar 3)) uNil)))) (uName 4))
  (uSeq (uAsg (uC (.str "other")) (uName 2))
  (uIfS (uAnd (uTest (uIsX x true (uVar 3))) (uTest (uOp (eq2 false) (uBlt b_len (uCons (uComp (iLst2 (uVar 4)) (uName 0) (uTest (uVar 0)) (uVar 0) [none]) uNil)) (uC (.int 1)))))
    (uAsg (uOp ix2 (uLst (uCons (uC (.str "bad")) (uCons (uC (.str "many")) (uCons (uC (.str "")) (uCons (uC (.str "")) (uCons (uC (.str "")) (uCons (uC (.str "")) uNil))))))) (uBm m_indexT (uVar 4) (uCons (uC (.bl true)) uNil))) (uName 2)) uNext))))
def okc (A : Adr) (C : Addr) : Prop := C = A.c_BadFloor ∨ C = A.c_TooMany
def xcOf (A : Adr) (b : Bool) : Addr := if b = true then A.c_BadFloor else A.c_TooMany
def said_th (A : Adr) (C x : Addr) : TS2 := fun D τ G => ∃ b, C = xcOf A b ∧ rd_said_th x b D τ G
def rd_law_said (A : Adr) : TS2 :=
  (uSeq (uAsg (uC (.str "made")) (uName 2)) (uSeq (uTry 3 (okc A) (fun E => uDrop (uMakeX E A.c_Floor (sp_Floor_init A) (uCons (uVar 0) (uCons (uVar 1) uNil)))) (said_th A)) (uRet (uVar 2))))
theorem len_law_cell_at {A : Adr} : ∀ ws G Q E, sp_law_cell_at A ws G Q E → ws.length = 2 := by rintro _ G Q E ⟨_, _, rfl, _⟩; rfl
theorem len_law_kept {A : Adr} : ∀ ws G Q E, sp_law_kept A ws G Q E → ws.length = 1 := by rintro _ G Q E ⟨_, _, rfl, _⟩; rfl
theorem len_law_no_ground {A : Adr} : ∀ ws G Q E, sp_law_no_ground A ws G Q E → ws.length = 1 := by rintro _ G Q E ⟨_, rfl, _⟩; rfl
theorem len_law_rows {A : Adr} : ∀ ws G Q E, sp_law_rows A ws G Q E → ws.length = 3 := by rintro _ G Q E ⟨_, _, _, rfl, _⟩; rfl
theorem len_is_whole {A : Adr} : ∀ ws G Q E, sp_is_whole A ws G Q E → ws.length = 1 := by rintro _ G Q E ⟨_, rfl, _⟩; rfl
theorem len_is_whole_pair {A : Adr} : ∀ ws G Q E, sp_is_whole_pair A ws G Q E → ws.length = 1 := by rintro _ G Q E ⟨_, rfl, _⟩; rfl
theorem len_is_ground {A : Adr} : ∀ ws G Q E, sp_is_ground A ws G Q E → ws.length = 1 := by rintro _ G Q E ⟨_, rfl, _⟩; rfl
theorem len_check_rows {A : Adr} : ∀ ws G Q E, sp_check_rows A ws G Q E → ws.length = 1 := by rintro _ G Q E ⟨_, _, rfl, _⟩; rfl
theorem len_check_grounds {A : Adr} : ∀ ws G Q E, sp_check_grounds A ws G Q E → ws.length = 1 := by rintro _ G Q E ⟨_, _, rfl, _⟩; rfl
theorem len_check_dock {A : Adr} : ∀ ws G Q E, sp_check_dock A ws G Q E → ws.length = 2 := by rintro _ G Q E ⟨_, _, _, _, rfl, _⟩; rfl
theorem len_check_floor {A : Adr} : ∀ ws G Q E, sp_check_floor A ws G Q E → ws.length = 2 := by rintro _ G Q E ⟨_, _, _, rfl, _⟩; rfl
theorem len_open_grounds {A : Adr} : ∀ ws G Q E, sp_open_grounds A ws G Q E → ws.length = 2 := by rintro _ G Q E ⟨_, _, _, _, _, rfl, _⟩; rfl
theorem len_Floor_init {A : Adr} : ∀ ws G Q E, sp_Floor_init A ws G Q E → ws.length = 3 := by rintro _ G Q E ⟨_, _, _, _, rfl, _⟩; rfl
theorem len_law_said {A : Adr} : ∀ ws G Q E, sp_law_said A ws G Q E → ws.length = 2 := by rintro _ G Q E ⟨_, _, _, rfl, _⟩; rfl
theorem len_law_spoilt {A : Adr} : ∀ ws G Q E, sp_law_spoilt A ws G Q E → ws.length = 3 := by rintro _ G Q E ⟨_, _, _, _, _, _, _, rfl, _⟩; rfl
theorem len_law {A : Adr} : ∀ ws G Q E, sp_law A ws G Q E → ws.length = 1 := by rintro _ G Q E ⟨_, rfl, _⟩; rfl
theorem atI_nat {α : Type} {xs : List α} {k : Nat} {x : α} (h : xs[k]? = some x) : atI xs (k : Int) = some x := by
  have hk : k < xs.length := (List.getElem?_eq_some_iff.mp h).1
  unfold atI ixN
  rw [if_pos (by omega), if_pos (by omega)]
  simpa using h
theorem hd_law_cell_at (A : Adr) (ws : List W) (G : WH) (Q : VK2) (E : XK2) (h : sp_law_cell_at A ws G Q E) : rd_law_cell_at A (ends Q) (start2 ["_law_script", "_law_k"] ws) G := by
  obtain ⟨ns, k, rfl, q⟩ := h
  refine ⟨(ns.map W.int).length, rfl, ?_⟩
  refine ifd (fun hlt => ?_) fun hge => ?_
  · have hk : k < ns.length := by simpa using hlt
    refine ⟨.int ns[k], ?_, Less.of ?_⟩
    · exact atI_nat (by simp [hk])
    · have : cellAt ns k = ns[k] := by simp [cellAt, hk]
      rw [this] at q; exact q
  · have hk : ¬ k < ns.length := by simpa using hge
    have : cellAt ns k = 0 := by simp [cellAt, Nat.not_lt.mp hk]
    rw [this] at q
    exact Less.of q
theorem hd_is_whole (A : Adr) (ws : List W) (G : WH) (Q : VK2) (E : XK2) (h : sp_is_whole A ws G Q E) : rd_is_whole A (ends Q) (start2 ["thing"] ws) G := by
  obtain ⟨w, rfl, hk, q⟩ := h
  cases w with
  | non => exact ⟨"NoneType", false, rfl, rfl, iteF (Less.of q)⟩
  | bl b => exact ⟨"bool", true, rfl, rfl, iteT ⟨"bool", true, rfl, rfl, Less.of q⟩⟩
  | int i => exact ⟨"int", true, rfl, rfl, iteT ⟨"int", false, rfl, rfl, Less.of q⟩⟩
  | str x => exact ⟨"str", false, rfl, rfl, iteF (Less.of q)⟩
  | tup x => exact ⟨"tuple", false, rfl, rfl, iteF (Less.of q)⟩
  | ref a =>
    rcases hk with ⟨xs, h⟩ | ⟨xs, h⟩
    · exact ⟨"list", false, tyN_l h, rfl, iteF (Less.of q)⟩
    · exact ⟨"dict", false, tyN_d h, rfl, iteF (Less.of q)⟩
  | ty n => exact hk.elim
  | scr ws => exact hk.elim
  | lst ws => exact hk.elim
theorem isPr_two (a b : W) : isPr (.tup [a, b]) = (isWh a && isWh b) := by cases a <;> cases b <;> rfl
theorem isPr_len {xs : List W} (h : xs.length ≠ 2) : isPr (.tup xs) = false := by
  unfold isPr
  split
  · rename_i e
    injection e with e
    subst e
    exact absurd rfl h
  · rfl
theorem len_two {xs : List W} (h : xs.length = 2) : ∃ a b, xs = [a, b] := by
  match xs, h with
  | [a, b], _ => exact ⟨a, b, rfl⟩
theorem hd_is_whole_pair (A : Adr) (ws : List W) (G : WH) (Q : VK2) (E : XK2) (h : sp_is_whole_pair A ws G Q E) : rd_is_whole_pair A (ends Q) (start2 ["thing"] ws) G := by
  obtain ⟨w, rfl, ⟨hk, _, hy⟩, q⟩ := h
  cases w with
  | non => exact ⟨"NoneType", false, rfl, rfl, iteF (Less.of q)⟩
  | bl b => exact ⟨"bool", false, rfl, rfl, iteF (Less.of q)⟩
  | int i => exact ⟨"int", false, rfl, rfl, iteF (Less.of q)⟩
  | str x => exact ⟨"str", false, rfl, rfl, iteF (Less.of q)⟩
  | tup xs =>
    refine ⟨"tuple", true, rfl, rfl, iteT ⟨xs.length, rfl, _, _, .int _, .int _, dep_int, ifeq (fun e => ?_) fun e => ?_⟩⟩
    · have e' : xs.length = 2 := by omega
      obtain ⟨a, b, rfl⟩ := len_two e'
      rw [isPr_two] at q
      refine ⟨a, rfl, a, rfl, hy _ rfl a (by simp), ?_⟩
      refine andv (R := fun k => Less Q (.bl k) G) (Less.of q) fun q => ?_
      exact ⟨b, rfl, b, rfl, hy _ rfl b (by simp), q⟩
    · rw [isPr_len (by omega)] at q
      exact Less.of q
  | ref a =>
    rcases hk with ⟨xs, h⟩ | ⟨xs, h⟩
    · exact ⟨"list", false, tyN_l h, rfl, iteF (Less.of q)⟩
    · exact ⟨"dict", false, tyN_d h, rfl, iteF (Less.of q)⟩
  | ty n => exact hk.elim
  | scr ws => exact hk.elim
  | lst ws => exact hk.elim
theorem isGr_pr {w : W} (h : isPr w = true) : ∃ c k : Int, w = .tup [.int c, .int k] := by
  unfold isPr at h
  split at h
  · exact ⟨_, _, rfl⟩
  · cases h
theorem isGr_npr {w : W} (h : isPr w = false) (hn : w ≠ .non) : isGr w = false := by
  unfold isGr
  split
  · exact absurd rfl hn
  · simp [isPr] at h
  · rfl
theorem hd_is_ground (A : Adr) (ws : List W) (G : WH) (Q : VK2) (E : XK2) (h : sp_is_ground A ws G Q E) : rd_is_ground A (ends Q) (start2 ["thing"] ws) G := by
  obtain ⟨w, rfl, hk, q⟩ := h
  refine ifd (fun e => ?_) fun e => ?_
  · have e' : w = .non := e
    subst e'; exact Less.of q
  · refine ⟨w, rfl, hk, ?_⟩
    refine ifb (fun hp => ?_) fun hp => ?_
    · obtain ⟨c, k, rfl⟩ := isGr_pr hp
      exact ⟨.int c, rfl, Less.of q⟩
    · rw [isGr_npr hp e] at q
      exact Less.of q
def ExtL (G G' : WH) : Prop := ∀ b o, (∀ C fs, o ≠ .ins C fs) → G b = some o → G' b = some o
theorem _root_.L3.Ext.l {G G' : WH} (e : Ext G G') : ExtL G G' := fun b o _ h => e b o h
theorem ExtL.lst {G G' : WH} (e : ExtL G G') {b : Addr} {xs : List W} (h : G b = some (.lst xs)) : G' b = some (.lst xs) := e _ _ (fun _ _ => nofun) h
theorem ExtL.dct {G G' : WH} (e : ExtL G G') {b : Addr} {t : Bool} {xs : List (W × W)} (h : G b = some (.dct t xs)) : G' b = some (.dct t xs) := e _ _ (fun _ _ => nofun) h
theorem extL_ins {G : WH} {x C : Addr} {fs : List (Str × W)} {o : WO} (h : G x = some (.ins C fs)) : ExtL G (gup G x o) := fun b u n e => by
  rw [gup_ne (fun z => by rw [z, h] at e; exact n C fs (Option.some.inj e).symm)]; exact e
mutual
theorem den_ext {G G' : WH} (e : ExtL G G') : ∀ {w d : W}, Den G w d → Den G' w d
  | _, _, .non => .non
  | _, _, .bl b => .bl b
  | _, _, .int i => .int i
  | _, _, .str x => .str x
  | _, _, .tup r => .tup (dens_ext e r)
  | _, _, .scr r => .scr (dens_ext e r)
  | _, _, .ref h r => .ref (e.lst h) (dens_ext e r)
theorem dens_ext {G G' : WH} (e : ExtL G G') : ∀ {w d : List W}, Dens G w d → Dens G' w d
  | _, _, .nil => .nil
  | _, _, .cons a b => .cons (den_ext e a) (dens_ext e b)
end
section
variable {G G' : WH} {w x : W} {v : RV}
theorem K0.ext (e : ExtL G G') (h : K0 G x) : K0 G' x := by
  cases x with
  | ref a => exact h.imp (fun ⟨xs, h⟩ => ⟨xs, e.lst h⟩) fun ⟨xs, h⟩ => ⟨xs, e.dct h⟩
  | _ => exact h
theorem NL.ext (e : ExtL G G') (h : NL G x) : NL G' x := by
  cases x with
  | ref a => obtain ⟨xs, h⟩ := h; exact ⟨xs, e.dct h⟩
  | _ => exact h
theorem SE.ext (e : ExtL G G') (h : SE G x) : SE G' x := h.imp (fun ⟨d, a, b⟩ => ⟨d, den_ext e a, b⟩) id
theorem KnT.ext (e : ExtL G G') (h : KnT G x) : KnT G' x := ⟨h.1.ext e, h.2.1.ext e, fun ys q y hy => (h.2.2 ys q y hy).ext e⟩
theorem TopEq.ext (e : ExtL G G') (h : TopEq G x) : TopEq G' x := h.imp (fun ⟨d, a, b⟩ => ⟨d, den_ext e a, b⟩) fun ⟨a, b, c⟩ => ⟨a, b, e.dct c⟩
theorem RowV.ext (e : ExtL G G') {v : RowVw} (h : RowV G w v) : RowV G' w v := by
  cases v with
  | inl x => exact ⟨h.1, h.2.1.ext e, h.2.2.ext e⟩
  | inr xs => obtain ⟨b, h1, h2, h3⟩ := h; exact ⟨b, h1, e.lst h2, fun x hx => (h3 x hx).ext e⟩
theorem VW.ext (e : ExtL G G') (h : VW G w v) : VW G' w v := by
  cases v with
  | inl x => exact ⟨h.1, h.2.1.ext e, h.2.2.ext e⟩
  | inr vs => obtain ⟨a, rs, h1, h2, h3⟩ := h; exact ⟨a, rs, h1, e.lst h2, Paired.mapP h3 fun _ _ z => z.ext e⟩
end
theorem Paired.at {α β : Type} {R : α → β → Prop} : ∀ {xs : List α} {ys : List β}, Paired R xs ys → ∀ {i : Nat} {x : α}, xs[i]? = some x → ∃ y, ys[i]? = some y ∧ R x y
  | _, _, .nil, i, x, h => by simp at h
  | _, _, .cons a b, 0, x, h => by simp at h; subst h; exact ⟨_, rfl, a⟩
  | _, _, .cons a b, i + 1, x, h => by
    obtain ⟨y, h1, h2⟩ := Paired.at b (i := i) (x := x) (by simpa using h)
    exact ⟨y, by simpa using h1, h2⟩
theorem Paired.at' {α β : Type} {R : α → β → Prop} : ∀ {xs : List α} {ys : List β}, Paired R xs ys → ∀ {i : Nat} {y : β}, ys[i]? = some y → ∃ x, xs[i]? = some x ∧ R x y
  | _, _, .nil, i, x, h => by simp at h
  | _, _, .cons a b, 0, x, h => by simp at h; subst h; exact ⟨_, rfl, a⟩
  | _, _, .cons a b, i + 1, x, h => by
    obtain ⟨y, h1, h2⟩ := Paired.at' b (i := i) (y := x) (by simpa using h)
    exact ⟨y, by simpa using h1, h2⟩
theorem nl_ty {G : WH} {x : W} (h : NL G x) : ∃ t, tyN G x = some t ∧ isTab t "list" = some false := by
  cases x with
  | non => exact ⟨"NoneType", rfl, rfl⟩
  | bl b => exact ⟨"bool", rfl, rfl⟩
  | int i => exact ⟨"int", rfl, rfl⟩
  | str x => exact ⟨"str", rfl, rfl⟩
  | tup xs => exact ⟨"tuple", rfl, rfl⟩
  | ref a => obtain ⟨kvs, h⟩ := h; exact ⟨"dict", tyN_d h, rfl⟩
  | ty n => exact h.elim
  | scr ws => exact h.elim
  | lst ws => exact h.elim
theorem li_ty {G : WH} {b : Addr} {xs : List W} (h : G b = some (.lst xs)) : tyN G (.ref b) = some "list" ∧ isTab "list" "list" = some true := ⟨tyN_l h, rfl⟩
theorem wid_at {vs : List RowVw} {xs : List W} (h : vs[0]? = some (.inr xs)) : wid vs = xs.length := by
  cases vs with
  | nil => simp at h
  | cons a r => simp at h; subst h; rfl
theorem okRows_no {vs : List RowVw} {i : Nat} {v : RowVw} (h : vs[i]? = some v) (hv : rowOk (wid vs) v = false) : okRows (.inr vs) = false := by
  unfold okRows
  rw [Bool.and_eq_false_iff]
  refine .inr ?_
  rw [List.all_eq_false]
  exact ⟨v, List.mem_of_getElem? h, by rw [hv]; exact Bool.false_ne_true⟩
theorem okRows_w0 {vs : List RowVw} (h : wid vs = 0) : okRows (.inr vs) = false := by
  show (decide (0 < wid vs) && _) = false
  rw [h]; rfl
theorem hd_check_rows (A : Adr) (ws : List W) (G : WH) (Q : VK2) (E : XK2) (h : sp_check_rows A ws G Q E) : rd_check_rows A E (ends Q) (start2 ["rows", "row"] ws) G := by
  obtain ⟨r, v, rfl, hv, hq, he⟩ := h
  cases v with
  | inl x =>
    obtain ⟨rfl, hn, _⟩ := hv
    obtain ⟨t, h1, h2⟩ := nl_ty hn
    exact ⟨t, false, h1, h2, iteT (iteT ⟨(by show 1 ≤ sizeLine; decide), he rfl⟩)⟩
  | inr vs =>
    obtain ⟨a, rs, rfl, ha, hp⟩ := hv
    have hl := Paired.len hp
    refine ⟨_, _, (li_ty ha).1, (li_ty ha).2, iteF ⟨rs.length, lenW_l ha, _, _, .int _, .int _, dep_int, ifeq (fun e => ⟨(by show 1 ≤ sizeLine; decide), he ?_⟩) fun e => ?_⟩⟩
    · have : rs = [] := List.eq_nil_of_length_eq_zero (by omega)
      subst this
      cases hp
      rfl
    refine ⟨rs, ha, ?_⟩
    refine loop_inv (fun i τ G' => (∃ x, τ = [some (.ref a), x]) ∧ G' = G ∧ ∀ j, j < i → ∃ ys, vs[j]? = some (.inr ys) ∧ ys ≠ [] ∧ ys.length = wid vs) _ 0 _ _ ⟨⟨_, rfl⟩, rfl, fun j hj => by omega⟩ (fun _ τ G' _ _ h => by rw [h.2.1]; exact ha) ?_ ?_
    · rintro i w τ G' hw ⟨⟨x, rfl⟩, rfl, hi⟩ N hN
      rw [Nat.zero_add] at hi
      obtain ⟨v, hv, hrv⟩ := Paired.at hp hw
      cases v with
      | inl x =>
        obtain ⟨rfl, hn, _⟩ := hrv
        obtain ⟨t, h1, h2⟩ := nl_ty hn
        exact ⟨t, false, h1, h2, iteT (iteT ⟨(by show 1 ≤ sizeLine; decide), he (okRows_no hv rfl)⟩)⟩
      | inr ys =>
        obtain ⟨b, rfl, hb, hk⟩ := hrv
        refine ⟨_, _, (li_ty hb).1, (li_ty hb).2, iteF ⟨ys.length, lenW_l hb, _, _, .int _, .int _, dep_int, ifeq (fun e => ⟨(by show 1 ≤ sizeLine; decide), he ?_⟩) fun e => ?_⟩⟩
        · by_cases hw0 : wid vs = 0
          · exact okRows_w0 hw0
          · refine okRows_no hv ?_
            show (ys.length == wid vs) = false
            simp; omega
        · have h0 : ∃ xs, vs[0]? = some (.inr xs) := by
            by_cases hi0 : i = 0
            · subst hi0; exact ⟨ys, hv⟩
            · obtain ⟨zs, hz, _⟩ := hi 0 (by omega); exact ⟨zs, hz⟩
          obtain ⟨xs, hx⟩ := h0
          obtain ⟨w0, hw0, b0, rfl, hb0, _⟩ := Paired.at' hp hx
          refine ⟨ys.length, lenW_l hb, ix2_l (i := 0) ha (atI_nat (k := 0) hw0) ⟨xs.length, lenW_l hb0, .inl ⟨_, _, .int _, .int _, dep_int, ?_⟩⟩⟩
          have hwd := wid_at hx
          show if (!((ys.length : Int) == xs.length)) = true then _ else _
          by_cases e2 : ys.length = xs.length
          · rw [if_neg (by simp; omega)]
            refine hN _ _ ⟨⟨_, rfl⟩, rfl, fun j hj => ?_⟩
            by_cases hj' : j < i
            · exact hi j hj'
            · have : j = i := by omega
              subst this
              exact ⟨ys, hv, fun z => e (by rw [z]; rfl), by omega⟩
          · rw [if_pos (by simp; omega)]
            refine ⟨(by show 1 ≤ sizeLine; decide), he (okRows_no hv ?_)⟩
            show (ys.length == wid vs) = false
            simp; omega
    · rintro τ G' ⟨⟨x, rfl⟩, rfl, hi⟩
      rw [Nat.zero_add] at hi
      refine Less.of (hq ?_)
      unfold okRows
      rw [Bool.and_eq_true, decide_eq_true_eq, List.all_eq_true]
      have hvs : rs.length = vs.length := hl
      have hne : 0 < vs.length := by omega
      obtain ⟨ys, h1, h2, h3⟩ := hi 0 (by omega)
      refine ⟨?_, fun v hv => ?_⟩
      · have := List.length_pos_iff.mpr h2; omega
      · obtain ⟨j, hj, rfl⟩ := List.mem_iff_getElem.mp hv
        obtain ⟨ys, h1, h2, h3⟩ := hi j (by omega)
        have : vs[j] = .inr ys := by
          have := List.getElem?_eq_getElem hj
          rw [h1] at this; exact (Option.some.inj this).symm
        rw [this]
        show (ys.length == wid vs) = true
        simp; omega
theorem vw_row {G : WH} {rs : List W} {xss : List (List W)} (hp : Paired (RowV G) rs (xss.map .inr)) {i : Nat} {w : W} (h : rs[i]? = some w) : ∃ xs b, xss[i]? = some xs ∧ w = .ref b ∧ G b = some (.lst xs) ∧ ∀ x ∈ xs, KnT G x := by
  obtain ⟨v, hv, r⟩ := Paired.at hp h
  rw [List.getElem?_map] at hv
  cases q : xss[i]? with
  | none => rw [q] at hv; cases hv
  | some xs =>
    rw [q] at hv
    cases hv
    obtain ⟨b, h1, h2, h3⟩ := r
    exact ⟨xs, b, rfl, h1, h2, h3⟩
theorem vw_row' {G : WH} {rs : List W} {xss : List (List W)} (hp : Paired (RowV G) rs (xss.map .inr)) {i : Nat} {xs : List W} (h : xss[i]? = some xs) : ∃ b, rs[i]? = some (.ref b) ∧ G b = some (.lst xs) ∧ ∀ x ∈ xs, KnT G x := by
  obtain ⟨w, hw, r⟩ := Paired.at' hp (i := i) (y := .inr xs) (by rw [List.getElem?_map, h]; rfl)
  obtain ⟨b, rfl, h2, h3⟩ := r
  exact ⟨b, hw, h2, h3⟩
theorem gOk_no {xss : List (List W)} {i k : Nat} {xs : List W} {x : W} (h1 : xss[i]? = some xs) (h2 : xs[k]? = some x) (h : isGr x = false) : gOk xss = false := by
  unfold gOk
  rw [List.all_eq_false]
  refine ⟨xs, List.mem_of_getElem? h1, ?_⟩
  rw [Bool.not_eq_true, List.all_eq_false]
  exact ⟨x, List.mem_of_getElem? h2, by rw [h]; exact Bool.false_ne_true⟩
theorem hd_check_grounds (A : Adr) (ws : List W) (G : WH) (Q : VK2) (E : XK2) (h : sp_check_grounds A ws G Q E) : rd_check_grounds A E (ends Q) (start2 ["rows", "row", "thing"] ws) G := by
  obtain ⟨r, xss, rfl, ⟨a, rs, rfl, ha, hp⟩, hq, he⟩ := h
  refine ⟨rs, ha, ?_⟩
  refine loop_inv (fun i τ G' => (∃ x y, τ = [some (.ref a), x, y]) ∧ G' = G ∧ ∀ j, j < i → ∀ xs, xss[j]? = some xs → xs.all isGr = true) _ 0 _ _ ⟨⟨_, _, rfl⟩, rfl, fun j hj => by omega⟩ (fun _ τ G' _ _ h => by rw [h.2.1]; exact ha) ?_ ?_
  · rintro i w τ G' hw ⟨⟨x, y, rfl⟩, rfl, hi⟩ N hN
    rw [Nat.zero_add] at hi
    obtain ⟨xs, b, hx, rfl, hb, hk⟩ := vw_row hp hw
    refine ⟨xs, hb, ?_⟩
    refine loop_inv (fun k τ G'' => (∃ y, τ = [some (.ref a), some (.ref b), y]) ∧ G'' = G' ∧ ∀ j, j < k → ∀ x, xs[j]? = some x → isGr x = true) _ 0 _ _ ⟨⟨_, rfl⟩, rfl, fun j hj => by omega⟩ (fun _ τ G'' _ _ h => by rw [h.2.1]; exact hb) ?_ ?_
    · rintro k x τ G'' hx' ⟨⟨y, rfl⟩, rfl, hj⟩ N' hN'
      rw [Nat.zero_add] at hj
      refine ⟨x, rfl, hk x (List.mem_of_getElem? hx'), ?_⟩
      cases hg : isGr x with
      | true =>
        refine iteF (hN' _ _ ⟨⟨_, rfl⟩, rfl, fun j hj' z hz => ?_⟩)
        by_cases e : j < k
        · exact hj j e z hz
        · have : j = k := by omega
          subst this
          rw [hx'] at hz; cases hz; exact hg
      | false => exact iteT ⟨(by show 1 ≤ sizeLine; decide), he (gOk_no hx hx' hg)⟩
    · rintro τ G'' ⟨⟨y, rfl⟩, rfl, hj⟩
      rw [Nat.zero_add] at hj
      refine hN _ _ ⟨⟨_, _, rfl⟩, rfl, fun j hj' zs hz => ?_⟩
      by_cases e : j < i
      · exact hi j e zs hz
      · have : j = i := by omega
        subst this
        rw [hx] at hz; cases hz
        rw [List.all_eq_true]
        intro z hz
        obtain ⟨k, hk1, rfl⟩ := List.mem_iff_getElem.mp hz
        exact hj k hk1 _ (List.getElem?_eq_getElem hk1)
  · rintro τ G' ⟨⟨x, y, rfl⟩, rfl, hi⟩
    rw [Nat.zero_add] at hi
    refine Less.of (hq ?_)
    unfold gOk
    rw [List.all_eq_true]
    intro xs hxs
    obtain ⟨j, hj, rfl⟩ := List.mem_iff_getElem.mp hxs
    have hl := Paired.len hp
    rw [List.length_map] at hl
    exact hi j (by omega) _ (List.getElem?_eq_getElem hj)
theorem dockOk_npr {xss : List (List W)} {d : W} (h : isPr d = false) : dockOk xss d = false := by
  unfold dockOk
  split
  · simp [isPr] at h
  · rfl
theorem dockOk_no {xss : List (List W)} {i j : Int} (h : ¬ (0 ≤ i ∧ i < xss.length ∧ 0 ≤ j ∧ j < (xss.headD []).length ∧ (xss.getD i.toNat []).getD j.toNat .non ≠ .non)) : dockOk xss (.tup [.int i, .int j]) = false := by
  rw [Bool.eq_false_iff]
  intro z
  simp only [dockOk, Bool.and_eq_true, decide_eq_true_eq] at z
  exact h z
theorem dockOk_yes {xss : List (List W)} {i j : Int} (h : 0 ≤ i ∧ i < xss.length ∧ 0 ≤ j ∧ j < (xss.headD []).length ∧ (xss.getD i.toNat []).getD j.toNat .non ≠ .non) : dockOk xss (.tup [.int i, .int j]) = true := by
  simp only [dockOk, Bool.and_eq_true, decide_eq_true_eq]
  exact h
theorem even_head {xss : List (List W)} {n : Nat} (h : Even xss n) : ∃ x0, xss[0]? = some x0 ∧ x0.length = n ∧ (xss.headD []).length = n := by
  obtain ⟨h1, _, h3⟩ := h
  cases xss with
  | nil => exact absurd rfl h1
  | cons x r => exact ⟨x, rfl, h3 x (by simp), h3 x (by simp)⟩
theorem hd_check_dock (A : Adr) (ws : List W) (G : WH) (Q : VK2) (E : XK2) (h : sp_check_dock A ws G Q E) : rd_check_dock A E (ends Q) (start2 ["rows", "dock"] ws) G := by
  obtain ⟨r, d, xss, n, rfl, ⟨a, rs, rfl, ha, hp⟩, ev, hk, hq, he⟩ := h
  have hl := Paired.len hp
  rw [List.length_map] at hl
  refine ⟨d, rfl, hk, ?_⟩
  cases hpr : isPr d with
  | false => exact iteT ⟨(by show 1 ≤ sizeLine; decide), he (dockOk_npr hpr)⟩
  | true =>
    obtain ⟨i, j, rfl⟩ := isGr_pr hpr
    refine iteF ?_
    obtain ⟨x0, hx0, hn0, hh⟩ := even_head ev
    obtain ⟨b0, hw0, hb0, _⟩ := vw_row' hp hx0
    refine ⟨.int i, rfl, ifd (fun h => iteT ⟨(by show 1 ≤ sizeLine; decide), he (dockOk_no fun z => by omega)⟩) fun h1 => ?_⟩
    refine ⟨.int i, rfl, _, lenW_l ha, ifd (fun h => iteT ⟨(by show 1 ≤ sizeLine; decide), he (dockOk_no fun z => by omega)⟩) fun h2 => ?_⟩
    refine ⟨.int j, rfl, ifd (fun h => iteT ⟨(by show 1 ≤ sizeLine; decide), he (dockOk_no fun z => by omega)⟩) fun h3 => ?_⟩
    refine ⟨.int j, rfl, ix2_l (i := 0) ha (atI_nat (k := 0) hw0) ⟨_, lenW_l hb0, ifd (fun h => ⟨(by show 1 ≤ sizeLine; decide), he (dockOk_no fun z => by omega)⟩) fun h4 => ?_⟩⟩
    obtain ⟨i, rfl⟩ := Int.eq_ofNat_of_zero_le (show 0 ≤ i by omega)
    obtain ⟨j, rfl⟩ := Int.eq_ofNat_of_zero_le (show 0 ≤ j by omega)
    have hi : i < xss.length := by omega
    have hxi : xss[i]? = some xss[i] := List.getElem?_eq_getElem hi
    obtain ⟨b, hwi, hb, _⟩ := vw_row' hp hxi
    have hln := ev.2.2 _ (List.getElem_mem hi)
    have hj : j < xss[i].length := by omega
    have hxj : xss[i][j]? = some xss[i][j] := List.getElem?_eq_getElem hj
    have hent : (xss.getD (Int.toNat (i : Int)) []).getD (Int.toNat (j : Int)) .non = xss[i][j] := by
      simp [List.getD_eq_getElem?_getD, hi, hj]
    refine ⟨.int i, rfl, ix2_l ha (atI_nat hwi) ⟨.int j, rfl, ix2_l hb (atI_nat hxj) (ifd (fun h => ⟨(by show 1 ≤ sizeLine; decide), he (dockOk_no fun z => ?_)⟩) fun h5 => Less.of (hq (dockOk_yes ⟨?_, ?_, ?_, ?_, ?_⟩)))⟩⟩
    · rw [hent] at z; exact z.2.2.2.2 h
    all_goals first | omega | (rw [hent]; exact h5)
theorem okRows_xss {v : RV} (h : okRows v = true) : ∃ n, v = .inr ((xssOf v).map .inr) ∧ Even (xssOf v) n := by
  cases v with
  | inl x => cases h
  | inr vs =>
    have h' : (decide (0 < wid vs) && vs.all (rowOk (wid vs))) = true := h
    rw [Bool.and_eq_true, decide_eq_true_eq, List.all_eq_true] at h'
    have all : ∀ v ∈ vs, v = .inr (rowOf v) ∧ (rowOf v).length = wid vs := fun v hv => by
      have := h'.2 v hv
      cases v with
      | inl x => cases this
      | inr ys => exact ⟨rfl, by simpa [rowOk, rowOf] using this⟩
    refine ⟨wid vs, ?_, ?_, h'.1, ?_⟩
    · show Sum.inr vs = Sum.inr ((vs.map rowOf).map .inr)
      congr 1
      rw [List.map_map]
      conv => lhs; rw [← List.map_id vs]
      exact List.map_congr_left fun v hv => (all v hv).1
    · intro e
      have : vs = [] := List.map_eq_nil_iff.mp e
      subst this
      exact absurd h'.1 (by decide)
    · intro xs hxs
      obtain ⟨v, hv, rfl⟩ := List.mem_map.mp hxs
      exact (all v hv).2
theorem sml_len {xss : List (List W)} (h : Sml (.inr (xss.map .inr))) : xss.length ≤ 3000 ∧ ∀ xs ∈ xss, xs.length ≤ 3000 := ⟨by simpa using h.1, fun xs hx => h.2 xs (List.mem_map.mpr ⟨xs, hx, rfl⟩)⟩
theorem hd_check_floor (A : Adr) (ws : List W) (G : WH) (Q : VK2) (E : XK2) (h : sp_check_floor A ws G Q E) : rd_check_floor A E (ends Q) (start2 ["rows", "dock"] ws) G := by
  obtain ⟨r, d, v, rfl, hv, hs, hk, h0, h1, h2⟩ := h
  refine ⟨r, v, rfl, hv, fun ok => ?_, fun no => h1 (by unfold vd; rw [no]; rfl)⟩
  obtain ⟨n, ev, hE⟩ := okRows_xss ok
  have evd : vd v d = vd2 (xssOf v) d := by unfold vd; rw [ok]; rfl
  rw [evd] at h0 h1 h2
  revert hE
  generalize xssOf v = xss at ev h0 h1 h2
  intro hE
  subst ev
  refine ⟨r, xss, rfl, hv, fun g => ?_, fun g => h1 (by unfold vd2; rw [g]; rfl)⟩
  refine ⟨r, d, xss, n, rfl, hv, hE, hk, fun g' => ?_, fun g' => h1 (by unfold vd2; rw [g, g']; rfl)⟩
  obtain ⟨a, rs, rfl, ha, hp⟩ := hv
  have hl := Paired.len hp
  rw [List.length_map] at hl
  obtain ⟨x0, hx0, hn0, hh⟩ := even_head hE
  obtain ⟨b0, hw0, hb0, _⟩ := vw_row' hp hx0
  obtain ⟨s1, s2⟩ := sml_len hs
  have s3 := s2 x0 (List.mem_of_getElem? hx0)
  refine ⟨_, lenW_l ha, ix2_l (i := 0) ha (atI_nat (k := 0) hw0) ⟨_, lenW_l hb0, .inl ⟨by omega, by omega⟩, ?_⟩⟩
  have ex : ((rs.length : Int) * (x0.length : Int)) = ((xss.length * (xss.headD []).length : Nat) : Int) := by rw [hl, hn0, hh, Int.natCast_mul]
  refine ifd (fun h => ⟨(by show 1 ≤ sizeLine; decide), h2 ?_⟩) fun h => Less.of (h0 ?_)
  · unfold vd2; rw [g, g', if_pos rfl, if_pos rfl, if_pos]; rw [ex] at h; omega
  · unfold vd2; rw [g, g', if_pos rfl, if_pos rfl, if_neg]; rw [ex] at h; omega
theorem sz3 {n : Nat} (h : n ≤ 3000) : n < sizeLine := Nat.lt_of_le_of_lt h (by decide)
theorem putW_len (kvs : List (W × W)) (k v : W) : (putW kvs k v).length ≤ kvs.length + 1 := by
  unfold putW
  split
  · simp
  · simp
theorem hd_open_grounds (A : Adr) (ws : List W) (G : WH) (Q : VK2) (E : XK2) (h : sp_open_grounds A ws G Q E) : rd_open_grounds A (ends Q) (start2 ["rows", "dock", "found", "i", "row", "j", "ground"] ws) G := by
  obtain ⟨r, i, j, xss, n, rfl, ⟨a, rs, rfl, ha, hp⟩, ev, hsz, q⟩ := h
  have hl := Paired.len hp
  rw [List.length_map] at hl
  intro p hp0
  have mono : ∀ {b : Addr} {o : WO} {kvs : List (W × W)}, G b = some o → gup G p (.dct true kvs) b = some o := fun h => gk h hp0
  refine ⟨rs, mono ha, ?_⟩
  refine loop_inv (fun k τ G' => (∃ x3 x4 x5 x6, τ = [some (.ref a), some (.tup [.int i, .int j]), some (.ref p), x3, x4, x5, x6]) ∧ ∃ kvs, G' = gup G p (.dct true kvs) ∧ kvs.length ≤ k * n) _ 0 _ _ ⟨⟨_, _, _, _, rfl⟩, [], rfl, by simp⟩ (fun _ τ G' _ _ h => by obtain ⟨_, kvs, rfl, _⟩ := h; exact mono ha) ?_ ?_
  · rintro k w τ G' hw ⟨⟨x3, x4, x5, x6, rfl⟩, kvs, rfl, hkv⟩ N hN
    rw [Nat.zero_add] at hkv
    obtain ⟨z, hz, rfl⟩ := enumW_get hw
    obtain ⟨xs, b, hx, rfl, hb, hk⟩ := vw_row hp hz
    have hln : xs.length = n := ev.2.2 _ (List.mem_of_getElem? hx)
    have hkl : k < xss.length := (List.getElem?_eq_some_iff.mp hx).1
    have hmul : k * n + n ≤ 2500 := by
      have : (k + 1) * n ≤ xss.length * n := Nat.mul_le_mul_right _ hkl
      rw [Nat.add_mul, Nat.one_mul] at this
      omega
    refine ⟨rfl, rfl, xs, mono hb, ?_⟩
    refine loop_inv (fun m τ G' => (∃ x5 x6, τ = [some (.ref a), some (.tup [.int i, .int j]), some (.ref p), some (.int k), some (.ref b), x5, x6]) ∧ ∃ kvs, G' = gup G p (.dct true kvs) ∧ kvs.length ≤ k * n + m) _ 0 _ _ ⟨⟨_, _, rfl⟩, kvs, rfl, by omega⟩ (fun _ τ G' _ _ h => by obtain ⟨_, kvs, rfl, _⟩ := h; exact mono hb) ?_ ?_
    · rintro m w τ G' hw ⟨⟨x5, x6, rfl⟩, kvs, rfl, hkv⟩ N' hN'
      rw [Nat.zero_add] at hkv
      obtain ⟨x, hx', rfl⟩ := enumW_get hw
      have hml : m < xs.length := (List.getElem?_eq_some_iff.mp hx').1
      refine ⟨rfl, rfl, ?_⟩
      refine ifb (fun h => ?_) fun h => ?_
      · have hz : kvs.length < sizeLine := sz3 (by omega)
        refine ⟨.int i, rfl, .int j, rfl, (by show 2 ≤ sizeLine; decide), set2_d gup_same rfl hz ?_⟩
        refine hN' _ _ ⟨⟨_, _, rfl⟩, _, gup_gup, ?_⟩
        exact Nat.le_trans (putW_len _ _ _) (by omega)
      · exact hN' _ _ ⟨⟨_, _, rfl⟩, _, rfl, by omega⟩
    · rintro τ G' ⟨⟨x5, x6, rfl⟩, kvs, rfl, hkv⟩
      rw [enumW_len] at hkv
      refine hN _ _ ⟨⟨_, _, _, _, rfl⟩, kvs, rfl, ?_⟩
      rw [Nat.zero_add, Nat.add_mul, Nat.one_mul]
      omega
  · rintro τ G' ⟨⟨x3, x4, x5, x6, rfl⟩, kvs, rfl, hkv⟩
    exact Less.of (q _ p (.new hp0))
theorem vd_zero {v : RV} {d : W} (h : vd v d = 0) : ∃ n i j, v = .inr ((xssOf v).map .inr) ∧ Even (xssOf v) n ∧ d = .tup [.int i, .int j] ∧ (xssOf v).length * n ≤ 2500 := by
  unfold vd at h
  by_cases ok : okRows v = true
  · rw [if_pos ok] at h
    obtain ⟨n, e, ev⟩ := okRows_xss ok
    obtain ⟨x0, hx0, hn0, hh⟩ := even_head ev
    unfold vd2 at h
    split at h
    · split at h
      · rename_i hd
        split at h
        · cases h
        · rename_i hm
          have : isPr d = true := by
            cases hp : isPr d with
            | true => rfl
            | false => rw [dockOk_npr hp] at hd; cases hd
          obtain ⟨i, j, rfl⟩ := isGr_pr this
          rw [hh] at hm
          exact ⟨n, i, j, e, ev, rfl, by omega⟩
      · cases h
    · cases h
  · rw [if_neg ok] at h; cases h
theorem hd_Floor_init (A : Adr) (ws : List W) (G : WH) (Q : VK2) (E : XK2) (h : sp_Floor_init A ws G Q E) : rd_Floor_init A E (ends Q) (start2 ["self", "rows", "dock"] ws) G := by
  obtain ⟨x, r, d, v, rfl, hx, hv, hs, hk, h0, h1, h2⟩ := h
  refine ⟨r, d, v, rfl, hv, hs, hk, fun z => ?_, h1, h2⟩
  obtain ⟨n, i, j, e, ev, rfl, hsz⟩ := vd_zero z
  have q := h0 z
  clear h0 h1 h2 z
  revert hsz ev
  generalize xssOf v = xss at e
  intro ev hsz
  subst e
  obtain ⟨a, rs, rfl, ha, hp⟩ := id hv
  have hl := Paired.len hp
  rw [List.length_map] at hl
  have hs1 := (sml_len hs).1
  refine ⟨rs, ha, ?_⟩
  refine compGo_inv (fun k acc τ G' => (∃ y, τ = [y]) ∧ Ext G G' ∧ acc.length = k) _ 0 _ _ _ ⟨⟨_, rfl⟩, .refl _, rfl⟩ (fun _ _ _ G' _ _ h => h.2.1 _ _ ha) (fun i _ _ _ _ hi h => sz3 (by have := h.2.2; omega)) ?_ ?_
  · rintro k w acc τ G' hw ⟨⟨y, rfl⟩, e', hacc⟩ C1 C2 hC1 hC2
    obtain ⟨xs, b, hx, rfl, hb, _⟩ := vw_row hp hw
    refine ⟨xs, itemsW_l (e' _ _ hb), fun p hp => hC1 _ _ _ _ (fun _ _ z => z) ⟨⟨_, rfl⟩, e'.trans (.new hp), by simp; omega⟩⟩
  · rintro acc τ G1 ⟨_, e1, _⟩ p hp1
    have e2 : Ext G (gup G1 p (.lst acc)) := e1.trans (.new hp1)
    refine ⟨_, e2 _ _ hx, by decide, ?_⟩
    refine ⟨_, gup_same, (by show 1 < 1000; decide), ?_⟩
    rw [gup_gup]
    have e3 := extL_ins (o := .ins A.c_Floor (putFW "dock_place" (.tup [.int i, .int j]) (putFW "row_lists" (.ref p) []))) (e2 _ _ hx)
    refine ⟨.ref a, i, j, xss, n, rfl, (hv.ext e2.l).ext e3, ev, hsz, fun G' p' e4 => ?_⟩
    refine ⟨_, e4 _ _ gup_same, (by show 2 < 1000; decide), Less.of (q _ fun b o hb ho => ?_)⟩
    rw [gup_ne hb]
    refine e4 _ _ ?_
    rw [gup_ne hb]
    exact e2 _ _ ho
theorem paired_snoc0 {α β : Type} {R : α → β → Prop} {x : α} {y : β} (r : R x y) : ∀ {xs : List α} {ys : List β}, Paired R xs ys → Paired R (xs ++ [x]) (ys ++ [y])
  | _, _, .nil => .cons r .nil
  | _, _, .cons a b => .cons a (paired_snoc0 r b)
theorem paired_snoc {α β : Type} {R : α → β → Prop} {x : α} {y : β} {xs : List α} {ys : List β} (h : Paired R xs ys) (r : R x y) : Paired R (xs ++ [x]) (ys ++ [y]) := paired_snoc0 r h
theorem m0 {m : Nat} (h : m < 1) : [false, true, false, false, false, false][m]? = some false := by
  have : m = 0 := by omega
  subst this; rfl
theorem th_ok (y : Addr) (b : Bool) (D : Ends2) (r d : W) (G : WH) (q : ∀ G', Ext G G' → ∀ z, D.nx [some r, some d, some (.str (if b = true then "bad" else "many")), some (.ref y), z] G') :
    rd_said_th y b D [some r, some d, some (.str "made"), some (.ref y), none] G := by
  refine ⟨rfl, rfl, rfl, rfl, (by show 4 ≤ sizeLine; decide), fun p1 hp1 => ?_⟩
  refine ⟨rfl, rfl, (by show 2 ≤ sizeLine; decide), fun p2 hp2 => ?_⟩
  refine ⟨_, _, gk gup_same hp2, gup_same, (by show 6 ≤ sizeLine; decide), fun p3 hp3 => ?_⟩
  have e3 := ((Ext.new (o := .lst [W.bl b, W.bl !b, W.bl false, W.bl false]) hp1).trans (.new (o := .lst [W.bl false, W.bl false]) hp2)).trans (.new (o := .lst ([W.bl b, W.bl !b, W.bl false, W.bl false] ++ [W.bl false, W.bl false])) hp3)
  refine ⟨rfl, iteT ?_⟩
  refine ⟨_, gup_same, ?_⟩
  refine compGo_pure (f := fun w => w) (p := fun w => decide (w = .bl true)) (T := fun τ => ∃ o, τ = [o]) gup_same _ _ _ ⟨_, rfl⟩ (fun w hw τ hT C1 C2 h1 h2 => ?_) (by show 6 ≤ sizeLine; decide) ?_
  · obtain ⟨o, rfl⟩ := hT
    have hw' : ∃ c, w = .bl c := by
      simp only [List.cons_append, List.nil_append, List.mem_cons, List.not_mem_nil, or_false] at hw
      rcases hw with rfl | rfl | rfl | rfl | rfl | rfl <;> exact ⟨_, rfl⟩
    obtain ⟨c, rfl⟩ := hw'
    cases c with
    | true => exact h1 (by simp) _ ⟨_, rfl⟩
    | false => exact h2 (by simp) _ ⟨_, rfl⟩
  · intro p4 hp4
    cases b with
    | true =>
      refine ⟨1, lenW_l gup_same, _, _, .int _, .int _, dep_int, iteT ?_⟩
      refine ⟨(by show 6 ≤ sizeLine; decide), fun p5 hp5 => ?_⟩
      refine ⟨⟨_, gk (gk gup_same hp4) hp5⟩, [true, false, false, false, false, false], 0, gk (gk gup_same hp4) hp5, rfl, fun m hm => by omega, ?_⟩
      refine ix2_l (i := 0) gup_same rfl ?_
      exact q _ ((e3.trans (.new hp4)).trans (.new hp5)) _
    | false =>
      refine ⟨1, lenW_l gup_same, _, _, .int _, .int _, dep_int, iteT ?_⟩
      refine ⟨(by show 6 ≤ sizeLine; decide), fun p5 hp5 => ?_⟩
      refine ⟨⟨_, gk (gk gup_same hp4) hp5⟩, [false, true, false, false, false, false], 1, gk (gk gup_same hp4) hp5, rfl, fun m hm => m0 hm, ?_⟩
      refine ix2_l (i := 1) gup_same rfl ?_
      exact q _ ((e3.trans (.new hp4)).trans (.new hp5)) _
theorem hd_law_said (A : Adr) (ws : List W) (G : WH) (Q : VK2) (E : XK2) (h : sp_law_said A ws G Q E) : rd_law_said A (ends Q) (start2 ["_law_rows_here", "_law_dock", "_law_word", "e", "_law_some"] ws) G := by
  obtain ⟨r, d, v, rfl, hv, hs, hk, q⟩ := h
  intro x hx
  have e1 : Ext G (gup G x (.ins A.c_Floor [])) := .new hx
  refine ⟨x, r, d, v, rfl, gup_same, hv.ext e1.l, hs, hk.ext e1.l, fun h0 G' hG' => ⟨rfl, ?_⟩, fun h1 => ?_, fun h2 => ?_⟩
  · rw [h0] at q
    refine Less.of (q G' fun b o hb => hG' b o (fun z => by rw [z, hx] at hb; cases hb) (e1 _ _ hb))
  · rw [h1] at q
    refine ⟨_, rfl, .inl rfl, fun y hy => ⟨true, rfl, th_ok y true _ r d _ fun G' e z => Less.of (q G' (e1.trans e))⟩⟩
  · rw [h2] at q
    refine ⟨_, rfl, .inr rfl, fun y hy => ⟨false, rfl, th_ok y false _ r d _ fun G' e z => Less.of (q G' (e1.trans e))⟩⟩
theorem hd_law_kept (A : Adr) (ws : List W) (G : WH) (Q : VK2) (E : XK2) (h : sp_law_kept A ws G Q E) : rd_law_kept A (ends Q) (start2 ["_law_rows_here"] ws) G := by
  obtain ⟨w, v, rfl, hv, hs, q⟩ := h
  cases v with
  | inl x =>
    obtain ⟨rfl, hn, _⟩ := id hv
    obtain ⟨t, h1, h2⟩ := nl_ty hn
    exact ⟨t, false, h1, h2, iteT (Less.of (q _ _ (.refl _) hv))⟩
  | inr vs =>
    obtain ⟨a, rs, rfl, ha, hp⟩ := id hv
    have hl := Paired.len hp
    have hsz := hs.1
    refine ⟨_, _, (li_ty ha).1, (li_ty ha).2, iteF ⟨rs, ha, ?_⟩⟩
    refine compGo_inv (fun k acc τ G' => (∃ y, τ = [y]) ∧ Ext G G' ∧ Paired (RowV G') acc (vs.take k)) _ 0 _ _ _ ⟨⟨_, rfl⟩, .refl _, .nil⟩ (fun _ _ _ G' _ _ h => h.2.1 _ _ ha) (fun i _ _ _ _ hi h => sz3 (by have := Paired.len h.2.2; rw [List.length_take] at this; omega)) ?_ ?_
    · rintro k w acc τ G' hw ⟨⟨y, rfl⟩, e', hacc⟩ C1 C2 hC1 hC2
      obtain ⟨u, hu, hr⟩ := Paired.at hp hw
      have htk : vs.take (0 + k + 1) = vs.take k ++ [u] := by rw [Nat.zero_add, List.take_add_one, hu]; rfl
      rw [Nat.zero_add] at hacc
      have hr' := hr.ext e'.l
      cases u with
      | inl x =>
        obtain ⟨rfl, hn, _⟩ := id hr'
        obtain ⟨t, h1, h2⟩ := nl_ty hn
        refine ⟨t, false, h1, h2, iteF (hC1 _ _ _ _ (fun _ _ z => z) ⟨⟨_, rfl⟩, e', ?_⟩)⟩
        rw [htk]
        exact paired_snoc hacc hr'
      | inr xs =>
        obtain ⟨b, rfl, hb, hk⟩ := id hr'
        refine ⟨_, _, (li_ty hb).1, (li_ty hb).2, iteT ⟨xs, itemsW_l hb, fun p hp => hC1 _ _ _ _ (fun _ _ z => z) ⟨⟨_, rfl⟩, e'.trans (.new hp), ?_⟩⟩⟩
        rw [htk]
        refine paired_snoc (Paired.mapP hacc fun _ _ z => z.ext (Ext.new hp).l) ⟨p, rfl, gup_same, fun x hx => (hk x hx).ext (Ext.new hp).l⟩
    · rintro acc τ G1 ⟨_, e1, hacc⟩ p hp1
      have : vs.take (0 + rs.length) = vs := by rw [Nat.zero_add, hl]; exact List.take_length
      rw [this] at hacc
      exact Less.of (q _ _ (e1.trans (.new hp1)) ⟨p, acc, rfl, gup_same, Paired.mapP hacc fun _ _ z => z.ext (Ext.new hp1).l⟩)
theorem flat_den {G : WH} {n : Nat} {w : W} (h : flatW w = true) : Den G w w ∧ Dep n w ∧ K0 G w := by
  cases w with
  | non => exact ⟨.non, dep_non, trivial⟩
  | bl b => exact ⟨.bl b, dep_bl, trivial⟩
  | int i => exact ⟨.int i, dep_int, trivial⟩
  | str x => exact ⟨.str x, dep_str, trivial⟩
  | _ => cases h
theorem dens_self {G : WH} : ∀ {ys : List W}, (∀ y ∈ ys, Den G y y) → Dens G ys ys
  | [], _ => .nil
  | y :: ys, h => .cons (h y (by simp)) (dens_self fun z hz => h z (by simp [hz]))
theorem plain1_den {G : WH} {n : Nat} {w : W} (h : plain1 w = true) : Den G w w ∧ Dep (n + 1) w ∧ K0 G w := by
  cases w with
  | tup zs =>
    have h' : ∀ z ∈ zs, flatW z = true := List.all_eq_true.mp h
    exact ⟨.tup (dens_self fun z hz => (flat_den (n := n) (h' z hz)).1), .tup fun z hz => (flat_den (G := G) (h' z hz)).2.1, trivial⟩
  | non => exact flat_den h
  | bl b => exact flat_den h
  | int i => exact flat_den h
  | str x => exact flat_den h
  | _ => cases h
theorem plain_den {G : WH} {n : Nat} {w : W} (h : plainW w = true) : Den G w w ∧ Dep (n + 2) w ∧ K0 G w := by
  cases w with
  | tup zs =>
    have h' : ∀ z ∈ zs, plain1 z = true := List.all_eq_true.mp h
    exact ⟨.tup (dens_self fun z hz => (plain1_den (n := n) (h' z hz)).1), .tup fun z hz => (plain1_den (G := G) (h' z hz)).2.1, trivial⟩
  | non => exact flat_den h
  | bl b => exact flat_den h
  | int i => exact flat_den h
  | str x => exact flat_den h
  | _ => cases h
theorem plain_knt {G : WH} {w : W} (h : plainW w = true) : KnT G w := by
  obtain ⟨h1, h2, h3⟩ := plain_den (G := G) (n := 28) h
  refine ⟨h3, .inl ⟨w, h1, h2⟩, fun ys e y hy => ?_⟩
  subst e
  exact (plain1_den (n := 0) (List.all_eq_true.mp h y hy)).2.2
theorem lst_knt {G : WH} {a : Addr} {xs : List W} (h : G a = some (.lst xs)) : KnT G (.ref a) := ⟨.inl ⟨xs, h⟩, .inr ⟨a, rfl⟩, fun ys e => by cases e⟩
theorem dct_knt {G : WH} {a : Addr} {xs : List (W × W)} (h : G a = some (.dct true xs)) : KnT G (.ref a) := ⟨.inr ⟨xs, h⟩, .inr ⟨a, rfl⟩, fun ys e => by cases e⟩
theorem atI_mod {L : List W} {c : Int} {n : Nat} (hl : L.length = n) (hn : 0 < n) : ∃ w, atI L (c % (n : Int)) = some w ∧ w ∈ L := by
  have h1 : 0 ≤ c % (n : Int) := Int.emod_nonneg _ (by omega)
  have h2 : c % (n : Int) < n := Int.emod_lt_of_pos _ (by omega)
  obtain ⟨k, hk⟩ := Int.eq_ofNat_of_zero_le h1
  have hk' : k < L.length := by omega
  exact ⟨L[k], by rw [hk]; exact atI_nat (List.getElem?_eq_getElem hk'), List.getElem_mem hk'⟩
theorem ix_mod {G : WH} {a : Addr} {L : List W} {c : Int} {n : Nat} {Q : VK2} (h : G a = some (.lst L)) (hl : L.length = n) (hn : 0 < n) (q : ∀ w ∈ L, Q w G) : ix2 (.ref a) (.int (c % (n : Int))) G Q := by
  obtain ⟨w, hw, hm⟩ := atI_mod (c := c) hl hn
  exact ix2_l h hw (q w hm)
theorem pow10 {n : Nat} : (0 : Int) < 10 ^ n := Int.pow_pos (by decide)
theorem nx {G : WH} {p q : Addr} {o : WO} (h : G p = none) (_ : gup G p o q = none) : Ext G (gup G p o) := .new h
theorem hd_law_no_ground (A : Adr) (ws : List W) (G : WH) (Q : VK2) (E : XK2) (h : sp_law_no_ground A ws G Q E) : rd_law_no_ground A (ends Q) (start2 ["_law_cell", "_law_some"] ws) G := by
  obtain ⟨c, rfl, q⟩ := h
  refine ⟨(by show 2 ≤ sizeLine; decide), fun p0 h0 => ⟨(by show 1 ≤ sizeLine; decide), (by show 3 ≤ sizeLine; decide), (by show 2 ≤ sizeLine; decide), ⟨by decide, by decide, by decide⟩, pow10, (by show 2 ≤ sizeLine; decide), (by show 5 ≤ sizeLine; decide), fun p1 h1 => ?_⟩⟩
  refine ⟨(by show 2 ≤ sizeLine; decide), (by show 2 ≤ sizeLine; decide), (by show 2 ≤ sizeLine; decide), (by show 2 ≤ sizeLine; decide), (by show 4 ≤ sizeLine; decide), fun p2 h2 => ⟨_, _, gk gup_same h2, gup_same, (by show 9 ≤ sizeLine; decide), fun p3 h3 => ?_⟩⟩
  refine ⟨(by show 0 ≤ sizeLine; decide), (by show 2 ≤ sizeLine; decide), (by show 2 ≤ sizeLine; decide), (by show 1 ≤ sizeLine; decide), (by show 2 ≤ sizeLine; decide), fun p4 h4 => ⟨(by show 10 ≤ sizeLine; decide), fun p5 h5 => ⟨_, _, gk (gk gup_same h4) h5, gup_same, (by show 19 ≤ sizeLine; decide), fun p6 h6 => ?_⟩⟩⟩
  refine ⟨19, lenW_l gup_same, (by show (0 : Int) < 19; decide), ?_⟩
  have e0 := (((((nx h1 h2).trans (nx h2 h3)).trans (nx h3 h4)).trans (nx h4 h5)).trans (nx h5 h6)) _ _ gup_same
  have e := (((((nx h0 h1).trans (nx h1 h2)).trans (nx h2 h3)).trans (nx h3 h4)).trans (nx h4 h5)).trans (nx h5 h6)
  have e4 := (nx h5 h6) _ _ gup_same
  refine ix_mod (n := 19) gup_same rfl (by decide) fun w hm => Less.of (q _ w (e.trans (.new h6)) ?_ ?_ ?_)
  · simp only [List.cons_append, List.nil_append, List.mem_cons, List.not_mem_nil, or_false] at hm
    rcases hm with rfl | rfl | rfl | rfl | rfl | rfl | rfl | rfl | rfl | rfl | rfl | rfl | rfl | rfl | rfl | rfl | rfl | rfl | rfl
    case inl => exact lst_knt (gk e0 h6)
    all_goals first | exact plain_knt rfl | exact dct_knt (gk e4 h6)
  · simp only [List.cons_append, List.nil_append, List.mem_cons, List.not_mem_nil, or_false] at hm
    rcases hm with rfl | rfl | rfl | rfl | rfl | rfl | rfl | rfl | rfl | rfl | rfl | rfl | rfl | rfl | rfl | rfl | rfl | rfl | rfl
    all_goals first | rfl | (have := Int.emod_nonneg c (Int.ne_of_gt (pow10 (n := 20))); simp [isGr]; omega)
  · simp only [List.cons_append, List.nil_append, List.mem_cons, List.not_mem_nil, or_false] at hm
    rcases hm with rfl | rfl | rfl | rfl | rfl | rfl | rfl | rfl | rfl | rfl | rfl | rfl | rfl | rfl | rfl | rfl | rfl | rfl | rfl
    all_goals first | exact .inl rfl | exact .inr ⟨_, rfl⟩
theorem paired_set {α β : Type} {R : α → β → Prop} {x : α} {y : β} (r : R x y) : ∀ {as : List α} {bs : List β} (i : Nat), Paired R as bs → Paired R (as.set i x) (bs.set i y)
  | _, _, _, .nil => .nil
  | _, _, 0, .cons _ t => .cons r t
  | _, _, i + 1, .cons q t => .cons q (paired_set r i t)
theorem paired_of {α β : Type} {R : α → β → Prop} : ∀ {as : List α} {bs : List β}, as.length = bs.length → (∀ (i : Nat) a b, as[i]? = some a → bs[i]? = some b → R a b) → Paired R as bs
  | [], [], _, _ => .nil
  | [], _ :: _, h, _ => by simp at h
  | _ :: _, [], h, _ => by simp at h
  | a :: as, b :: bs, h, f => .cons (f 0 a b rfl rfl) (paired_of (by simpa using h) fun i x y h1 h2 => f (i + 1) x y (by simpa using h1) (by simpa using h2))
section
variable {G G' : WH} {a b : Addr} {bs : List Addr} {xss : List (List W)} {xs ys : List W}
theorem Grid.ext (e : ExtL G G') (g : Grid G a bs xss) : Grid G' a bs xss := ⟨e.lst g.ha, Paired.mapP g.hp fun _ _ z => e.lst z, g.nd⟩
theorem Grid.len (g : Grid G a bs xss) : bs.length = xss.length := Paired.len g.hp
theorem Grid.push (g : Grid G a bs xss) (hb : G b = some (.lst xs)) (hn : b ∉ a :: bs) : Grid (gup G a (.lst (bs.map .ref ++ [.ref b]))) a (bs ++ [b]) (xss ++ [xs]) := by
  have hab : b ≠ a := fun z => hn (by rw [z]; exact List.mem_cons_self)
  refine ⟨by rw [gup_same, List.map_append]; rfl, ?_, ?_⟩
  · have nd := g.nd
    rw [List.nodup_cons] at nd
    refine paired_snoc ?_ (by rw [gup_ne hab]; exact hb)
    refine paired_of g.len fun i c zs h1 h2 => ?_
    rw [gup_ne (fun z => nd.1 (by rw [← z]; exact List.mem_of_getElem? h1))]
    obtain ⟨zs', h3, h4⟩ := Paired.at g.hp h1
    rw [h2] at h3; cases h3; exact h4
  · have nd := g.nd
    rw [List.nodup_cons] at nd ⊢
    refine ⟨fun z => ?_, ?_⟩
    · rcases List.mem_append.mp z with z | z
      · exact nd.1 z
      · have z' : a = b := by simpa using z
        exact hab z'.symm
    · rw [List.nodup_append]
      refine ⟨nd.2, by simp, fun x hx y hy e => ?_⟩
      have : y = b := by simpa using hy
      subst this
      exact hn (List.mem_cons_of_mem _ (by rw [← e]; exact hx))
theorem Grid.set (g : Grid G a bs xss) {i : Nat} (hb : bs[i]? = some b) : Grid (gup G b (.lst ys)) a bs (xss.set i ys) := by
  have nd := g.nd
  rw [List.nodup_cons] at nd
  have hab : a ≠ b := fun z => nd.1 (by rw [z]; exact List.mem_of_getElem? hb)
  refine ⟨by rw [gup_ne hab]; exact g.ha, ?_, g.nd⟩
  refine paired_of (by rw [List.length_set]; exact g.len) fun j c zs h1 h2 => ?_
  by_cases hj : j = i
  · subst hj
    rw [hb] at h1; cases h1
    have hjl : j < xss.length := by
      have := (List.getElem?_eq_some_iff.mp hb).1
      rw [g.len] at this; exact this
    rw [List.getElem?_set_self hjl] at h2; cases h2
    exact gup_same
  · rw [List.getElem?_set_ne (Ne.symm hj)] at h2
    have hcb : c ≠ b := fun z => by
      subst z
      obtain ⟨l1, e1⟩ := List.getElem?_eq_some_iff.mp h1
      obtain ⟨l2, e2⟩ := List.getElem?_eq_some_iff.mp hb
      exact hj ((List.getElem_inj nd.2).mp (e1.trans e2.symm))
    rw [gup_ne hcb]
    obtain ⟨zs', h3, h4⟩ := Paired.at g.hp h1
    rw [h2] at h3; cases h3; exact h4
theorem Grid.row (g : Grid G a bs xss) {i : Nat} (h : xss[i]? = some xs) : ∃ b, bs[i]? = some b ∧ G b = some (.lst xs) := Paired.at' g.hp h
theorem Grid.rows (g : Grid G a bs xss) (hk : ∀ xs ∈ xss, ∀ x ∈ xs, KnT G x) : Paired (RowV G) (bs.map .ref) (xss.map .inr) := by
  refine paired_of (by simp [g.len]) fun i w v h1 h2 => ?_
  rw [List.getElem?_map] at h1 h2
  cases q : bs[i]? with
  | none => rw [q] at h1; cases h1
  | some b =>
    obtain ⟨xs, h3, h4⟩ := Paired.at g.hp q
    rw [q] at h1; rw [h3] at h2
    cases h1; cases h2
    exact ⟨b, rfl, h4, hk xs (List.mem_of_getElem? h3)⟩
theorem Grid.vw (g : Grid G a bs xss) (hk : ∀ xs ∈ xss, ∀ x ∈ xs, KnT G x) : VW G (.ref a) (.inr (xss.map .inr)) := ⟨a, _, rfl, g.ha, g.rows hk⟩
end
theorem gr_plain {x : W} (h : isGr x = true) : plainW x = true := by
  unfold isGr at h
  split at h
  · rfl
  · rfl
  · cases h
theorem gOk_at {xss : List (List W)} (h : gOk xss = true) : ∀ xs ∈ xss, ∀ x ∈ xs, isGr x = true := fun xs hxs => List.all_eq_true.mp (List.all_eq_true.mp h xs hxs)
theorem gOk_of {xss : List (List W)} (h : ∀ xs ∈ xss, ∀ x ∈ xs, isGr x = true) : gOk xss = true := List.all_eq_true.mpr fun xs hxs => List.all_eq_true.mpr (h xs hxs)
theorem gOk_knt {G : WH} {xss : List (List W)} (h : gOk xss = true) : ∀ xs ∈ xss, ∀ x ∈ xs, KnT G x := fun xs hxs x hx => plain_knt (gr_plain (gOk_at h xs hxs x hx))
theorem ext_at {G G' : WH} {a : Addr} {o : WO} (e : Ext G G') (h : G a = none) : Ext G (gup G' a o) := fun b u z => by rw [gup_ne (gne_of_none z h)]; exact e _ _ z
theorem le_fresh {G : WH} {b p : Addr} {o o' o'' : WO} (hp : gup G b o p = none) : ∀ c u, gup G b o' c = some u → gup (gup (gup G b o) p o'') b o' c = some u := fun c u h => by
  by_cases hc : c = b
  · subst hc; rw [gup_same] at h ⊢; exact h
  · rw [gup_ne hc] at h ⊢
    exact gk (by rw [gup_ne hc]; exact h) hp
theorem hd_law_rows (A : Adr) (ws : List W) (G : WH) (Q : VK2) (E : XK2) (h : sp_law_rows A ws G Q E) : rd_law_rows A (ends Q) (start2 ["_law_cell", "_law_many", "_law_wide", "_law_number", "_law_rows_here", "_law_r", "_law_row", "_law_c"] ws) G := by
  obtain ⟨c, m, n, rfl, hm, hn, q⟩ := h
  refine ⟨(by show (0 : Int) < 2147483647; decide), (by show 0 ≤ sizeLine; decide), fun a ha => ?_⟩
  have c0 := Int.emod_nonneg c (show (2147483647 : Int) ≠ 0 by decide)
  have c1 := Int.emod_lt_of_pos c (show (0 : Int) < 2147483647 by decide)
  refine ⟨by omega, by omega, ?_⟩
  refine loop_invL (fun k τ G' => (∃ (num : Int) (x5 x6 x7 : Option W), τ = [some (.int c), some (.int m), some (.int n), some (.int num), some (.ref a), x5, x6, x7] ∧ 0 ≤ num ∧ num < 1099511627776) ∧ Ext G G' ∧ ∃ bs xss, Grid G' a bs xss ∧ xss.length = k ∧ (∀ xs ∈ xss, xs.length = n) ∧ gOk xss = true) _ 0 _ _
    ⟨⟨_, _, _, _, rfl, by omega, by omega⟩, .new ha, [], [], ⟨gup_same, .nil, by simp⟩, rfl, by simp, rfl⟩ (fun _ _ _ _ _ _ => trivial) ?_ ?_
  · rintro k w τ G' hw ⟨⟨num, x5, x6, x7, rfl, n1, n2⟩, e, bs, xss, g, hk, hln, hgr⟩ N hN
    obtain ⟨hk', rfl⟩ := rangeW_get hw
    rw [Nat.zero_add] at hk
    refine ⟨(by show 0 ≤ sizeLine; decide), fun b hb => ?_⟩
    refine ⟨by omega, by omega, ?_⟩
    refine loop_invL (fun j τ G'' => (∃ (num : Int) (x7 : Option W), τ = [some (.int c), some (.int m), some (.int n), some (.int num), some (.ref a), some (.int (0 + (k : Int))), some (.ref b), x7] ∧ 0 ≤ num ∧ num < 1099511627776) ∧ ∃ xs, G'' = gup G' b (.lst xs) ∧ xs.length = j ∧ ∀ x ∈ xs, isGr x = true) _ 0 _ _
      ⟨⟨_, _, rfl, n1, n2⟩, [], rfl, rfl, by simp⟩ (fun _ _ _ _ _ _ => trivial) ?_ ?_
    · rintro j w τ G'' hw ⟨⟨num, x7, rfl, n1, n2⟩, xs, rfl, hj, hxg⟩ N' hN'
      obtain ⟨hj', rfl⟩ := rangeW_get hw
      rw [Nat.zero_add] at hj
      refine ⟨.inl ⟨by omega, by omega⟩, .inl ⟨by decide, by decide⟩, (by show (0 : Int) < 2147483647; decide), ?_⟩
      have d0 := Int.emod_nonneg (num * num + 48271 * num + (0 + (j : Int))) (show (2147483647 : Int) ≠ 0 by decide)
      have d1 := Int.emod_lt_of_pos (num * num + 48271 * num + (0 + (j : Int))) (show (0 : Int) < 2147483647 by decide)
      refine ⟨⟨xs, gup_same⟩, ⟨by decide, by decide⟩, (by show (0 : Int) < 9; decide), ⟨by decide, by decide⟩, (by show (0 : Int) < 5; decide), (by show 2 ≤ sizeLine; decide), (by show 2 ≤ sizeLine; decide), (by show 3 ≤ sizeLine; decide), fun p hp => ⟨(by show (0 : Int) < 3; decide), ix_mod (n := 3) gup_same rfl (by decide) fun y hy => ?_⟩⟩
      refine ⟨xs, gk gup_same hp, sz' (by omega), hN' _ _ _ (le_fresh hp) ⟨⟨_, _, rfl, d0, by omega⟩, xs ++ [y], rfl, by simp; omega, fun x hx => ?_⟩⟩
      rcases List.mem_append.mp hx with hx | hx
      · exact hxg x hx
      · have : x = y := by simpa using hx
        subst this
        simp only [List.mem_cons, List.not_mem_nil, or_false] at hy
        rcases hy with rfl | rfl | rfl
        · rfl
        · show decide (1 ≤ 1 + _) = true
          rw [decide_eq_true_eq]
          have := Int.emod_nonneg ((num * num + 48271 * num + (0 + (j : Int))) % 2147483647 / 3) (show (9 : Int) ≠ 0 by decide)
          omega
        · rfl
    · rintro τ G'' ⟨⟨num, x7, rfl, n1, n2⟩, xs, rfl, hj, hxg⟩
      rw [rangeW_len, Nat.zero_add] at hj
      have hab : gup G' b (.lst xs) a = some (.lst (bs.map .ref)) := gk g.ha hb
      have hbn : b ∉ a :: bs := fun z => by
        rcases List.mem_cons.mp z with z | z
        · rw [z, g.ha] at hb; cases hb
        · obtain ⟨i, hi, e⟩ := List.mem_iff_getElem.mp z
          obtain ⟨ys, _, hy⟩ := Paired.at g.hp (List.getElem?_eq_getElem hi)
          rw [e, hb] at hy; cases hy
      have gl := g.len
      refine ⟨⟨_, hab⟩, _, hab, sz' (by rw [List.length_map]; omega), hN _ _ _ (fun _ _ z => z) ⟨⟨_, _, _, _, rfl, n1, n2⟩, ext_at (e.trans (.new hb)) ha, _, _, (g.ext (Ext.new hb).l).push gup_same hbn, by simp; omega, fun zs hz => ?_, gOk_of fun zs hz => ?_⟩⟩
      · rcases List.mem_append.mp hz with hz | hz
        · exact hln zs hz
        · have : zs = xs := by simpa using hz
          subst this; simpa using hj
      · rcases List.mem_append.mp hz with hz | hz
        · exact gOk_at hgr zs hz
        · have : zs = xs := by simpa using hz
          subst this; exact hxg
  · rintro τ G' ⟨⟨num, x5, x6, x7, rfl, n1, n2⟩, e, bs, xss, g, hk, hln, hgr⟩
    rw [rangeW_len, Nat.zero_add] at hk
    exact Less.of (q _ a bs xss e g (by simpa using hk) hln hgr)
theorem cut_lo {xs : List W} {k : Nat} (h : k ≤ xs.length) : cutW xs none (some (k : Int)) = xs.take k := by
  unfold cutW
  have e1 : HT.sIx xs.length 0 none = 0 := rfl
  have e2 : HT.sIx xs.length xs.length (some (k : Int)) = min k xs.length := HT.sIx_nat xs.length xs.length k
  rw [e1, e2, List.drop_zero, Nat.sub_zero, Nat.min_eq_left h]
theorem cut_hi {xs : List W} {k : Nat} (h : k < xs.length) : cutW xs (some ((k : Int) + 1)) none = xs.drop (k + 1) := by
  unfold cutW
  have e1 : HT.sIx xs.length xs.length none = xs.length := rfl
  have e2 : HT.sIx xs.length 0 (some ((k : Int) + 1)) = min (k + 1) xs.length := HT.sIx_nat xs.length 0 (k + 1)
  rw [e1, e2, Nat.min_eq_left h]
  exact List.take_of_length_le (by rw [List.length_drop]; omega)
theorem splice {τ : St2} {G : WH} {Q : VK2} {vx vi : Nat} {tw : TE2} {a : Addr} {L : List W} {k : Nat} (C : W → WH → Prop) (mono : ∀ w G G', Ext G G' → C w G → C w G')
    (hx : τ[vx]? = some (some (.ref a))) (hi : τ[vi]? = some (some (.int (k : Int)))) (hk : k < L.length) (hL : L.length ≤ 3000) (ha : G a = some (.lst L))
    (hw : ∀ G1, Ext G G1 → ∀ R : VK2, (∀ w G2, Ext G1 G2 → C w G2 → R w G2) → tw τ G1 R)
    (q : ∀ G' p w, Ext G G' → C w G' → G' p = some (.lst (L.set k w)) → Q (.ref p) G') :
    uOp add2 (uOp add2 (uSlice (uVar vx) uNoPart (uPart (uVar vi))) (uLst (uCons tw uNil))) (uSlice (uVar vx) (uPart (uOp add2 (uVar vi) (uC (.int 1)))) uNoPart) τ G Q := by
  simp only [uOp, uSlice, uNoPart, uPart, uLst, uCons, uNil, uC, uVar, hx, hi]
  refine ⟨L, ha, fun p1 h1 => ?_⟩
  rw [cut_lo (Nat.le_of_lt hk)]
  refine hw _ (.new h1) _ fun w G2 e2 hc => ⟨(by show 1 ≤ sizeLine; decide), fun p2 h2 => ?_⟩
  have f1 : G2 p1 = some (.lst (L.take k)) := e2 _ _ gup_same
  refine ⟨_, _, gk f1 h2, gup_same, Nat.le_of_lt (sz3 (by simp; omega)), fun p3 h3 => ?_⟩
  have e3 : Ext G (gup (gup G2 p2 (.lst [w])) p3 (.lst (L.take k ++ [w]))) := (((Ext.new h1).trans e2).trans (.new h2)).trans (.new h3)
  refine ⟨L, e3 _ _ ha, fun p4 h4 => ?_⟩
  rw [cut_hi hk]
  refine ⟨_, _, gk gup_same h4, gup_same, Nat.le_of_lt (sz3 (by simp; omega)), fun p5 h5 => ?_⟩
  refine q _ p5 w ((e3.trans (.new h4)).trans (.new h5)) (mono _ _ _ ((((Ext.new h2).trans (.new h3)).trans (.new h4)).trans (.new h5)) hc) ?_
  rw [gup_same, List.set_eq_take_append_cons_drop, if_pos hk]
  simp
theorem xssOf_map (xss : List (List W)) : xssOf (.inr (xss.map .inr)) = xss := by
  show (xss.map Sum.inr).map rowOf = xss
  rw [List.map_map]
  exact (List.map_congr_left fun _ _ => rfl).trans (List.map_id xss)
theorem vd_gno {v : RV} {d : W} (h : gOk (xssOf v) = false) : vd v d = 1 := by
  unfold vd vd2
  rw [h]
  split <;> rfl
theorem vd_dno {v : RV} {d : W} (h : dockOk (xssOf v) d = false) : vd v d = 1 := by
  unfold vd vd2
  rw [h]
  split
  · split <;> rfl
  · rfl
theorem vd_rno {v : RV} {d : W} (h : okRows v = false) : vd v d = 1 := by
  unfold vd
  rw [h]; rfl
theorem sml_of {xss : List (List W)} (h1 : xss.length ≤ 3000) (h2 : ∀ xs ∈ xss, xs.length ≤ 3000) : Sml (.inr (xss.map .inr)) := ⟨by simpa using h1, fun xs hx => by
  obtain ⟨ys, hy, e⟩ := List.mem_map.mp hx
  cases e
  exact h2 xs hy⟩
theorem Fine.dock {xss : List (List W)} {n : Nat} {i j : Int} (fi : Fine xss n i j) : ∃ (i' j' : Nat) (xi : List W), i = i' ∧ j = j' ∧ xss[i']? = some xi ∧ xi.length = n ∧ j' < n ∧ i' < xss.length ∧ (xss.headD []).length = n ∧ xi.getD j' .non ≠ .non := by
  have h := fi.dk
  simp only [dockOk, Bool.and_eq_true, decide_eq_true_eq] at h
  obtain ⟨h1, h2, h3, h4, h5⟩ := h
  obtain ⟨x0, hx0, hn0, hh⟩ := even_head fi.ev
  obtain ⟨i, rfl⟩ := Int.eq_ofNat_of_zero_le h1
  obtain ⟨j, rfl⟩ := Int.eq_ofNat_of_zero_le h3
  have hi : i < xss.length := by omega
  have hg : xss[i]? = some xss[i] := List.getElem?_eq_getElem hi
  refine ⟨i, j, xss[i], rfl, rfl, hg, fi.ev.2.2 _ (List.getElem_mem hi), by omega, hi, hh, ?_⟩
  have : xss.getD (Int.toNat (i : Int)) [] = xss[i] := by simp [List.getD_eq_getElem?_getD, hi]
  rw [this] at h5
  exact h5
theorem dock_knt {G : WH} {i j : Int} : KnT G (.tup [.int i, .int j]) := plain_knt rfl
section
variable {A : Adr} {Q : VK2} {G : WH} {a b : Addr} {bs : List Addr} {xss : List (List W)} {xs : List W} {n k : Nat} {i j c : Int}
  (g : Grid G a bs xss) (fi : Fine xss n i j) (hb : bs[k]? = some b) (hx : xss[k]? = some xs) (hG : G b = some (.lst xs))
  (q : ∀ G' w d v, Ext G G' → VW G' w v → Sml v → KnT G' d → vd v d = 1 → Q (.tup [w, d]) G')
include g fi q
omit q in
theorem fine_vw {G' : WH} (e : Ext G G') : VW G' (.ref a) (.inr (xss.map .inr)) ∧ Sml (.inr (xss.map .inr)) :=
  ⟨(g.ext e.l).vw (gOk_knt fi.gr), sml_of (by have := fi.l1; omega) fun xs hx => by rw [fi.ev.2.2 xs hx]; have := fi.l2; omega⟩
theorem sp_way6 (x3 x4 x5 x6 x7 : Option W) : rd_law_spoilt_2 A (ends Q) [some (.ref a), some (.tup [.int i, .int j]), some (.int c), x3, x4, x5, x6, x7, none] G := by
  have gl := g.len
  have l1 := fi.l1
  refine ⟨_, g.ha, ?_⟩
  refine compGo_inv (fun m acc τ G' => (∃ y, τ = [y]) ∧ Ext G G' ∧ ∃ cs : List Addr, acc = cs.map .ref ∧ Paired (fun b xs => G' b = some (.lst xs)) cs (xss.take m) ∧ cs.Nodup ∧ ∀ x ∈ cs, G x = none) _ 0 _ _ _
    ⟨⟨_, rfl⟩, .refl _, [], rfl, .nil, by simp, by simp⟩ (fun _ _ _ G' _ _ h => h.2.1 _ _ g.ha) (fun m _ _ _ _ hm h => ?_) ?_ ?_
  · obtain ⟨_, _, cs, rfl, hp, _⟩ := h
    have := Paired.len hp
    rw [List.length_take] at this
    exact sz3 (by rw [List.length_map]; omega)
  · rintro m w acc τ G' hw ⟨⟨y, rfl⟩, e, cs, rfl, hp, nd, fr⟩ C1 C2 hC1 hC2
    rw [Nat.zero_add] at hp
    rw [List.getElem?_map] at hw
    cases hbm : bs[m]? with
    | none => rw [hbm] at hw; cases hw
    | some b' =>
      rw [hbm] at hw; cases hw
      obtain ⟨ys, hy, hby⟩ := Paired.at g.hp hbm
      have htk : xss.take (0 + m + 1) = xss.take m ++ [ys] := by rw [Nat.zero_add, List.take_add_one, hy]; rfl
      refine ⟨ys, itemsW_l (e _ _ hby), fun p hp' => hC1 _ _ _ _ (fun _ _ z => z) ⟨⟨_, rfl⟩, e.trans (.new hp'), cs ++ [p], by simp, ?_, ?_, ?_⟩⟩
      · rw [htk]
        exact paired_snoc (Paired.mapP hp fun _ _ z => gk z hp') gup_same
      · rw [List.nodup_append]
        refine ⟨nd, by simp, fun x hx y hy z => ?_⟩
        have : y = p := by simpa using hy
        subst this z
        obtain ⟨r, hr, er⟩ := List.mem_iff_getElem.mp hx
        obtain ⟨zs, _, hz⟩ := Paired.at hp (List.getElem?_eq_getElem hr)
        rw [er, hp'] at hz; cases hz
      · intro x hx
        rcases List.mem_append.mp hx with hx | hx
        · exact fr x hx
        · have : x = p := by simpa using hx
          subst this; exact e.none hp'
  · rintro acc τ G1 ⟨_, e1, cs, rfl, hp, nd, fr⟩ p hp1
    have : xss.take (0 + (bs.map W.ref).length) = xss := by rw [Nat.zero_add, List.length_map, gl]; exact List.take_length
    rw [this] at hp
    have hpn : p ∉ cs := fun z => by
      obtain ⟨r, hr, er⟩ := List.mem_iff_getElem.mp z
      obtain ⟨zs, _, hz⟩ := Paired.at hp (List.getElem?_eq_getElem hr)
      rw [er, hp1] at hz; cases hz
    have g2 : Grid (gup G1 p (.lst (cs.map .ref))) p cs xss := ⟨gup_same, Paired.mapP hp fun _ _ z => gk z hp1, List.nodup_cons.mpr ⟨hpn, nd⟩⟩
    obtain ⟨i, j, xi, rfl, rfl, hxi, hln, hjn, hil, hh, hne⟩ := fi.dock
    obtain ⟨b', hb', hGb⟩ := g2.row hxi
    have hat : atI (cs.map W.ref) (i : Int) = some (.ref b') := atI_nat (by rw [List.getElem?_map, hb']; rfl)
    have hix : ixN xi.length (j : Int) = some j := by
      unfold ixN; rw [if_pos (by omega), if_pos (by omega)]; rfl
    refine ⟨.int i, rfl, ix2_l g2.ha hat ⟨.int j, rfl, set2_l hGb hix ?_⟩⟩
    have g3 := g2.set (ys := xi.set j .non) hb'
    have e3 : Ext G (gup (gup G1 p (.lst (cs.map .ref))) b' (.lst (xi.set j .non))) := ext_at (e1.trans (.new hp1)) (fr b' (List.mem_of_getElem? hb'))
    have hgr : gOk (xss.set i (xi.set j .non)) = true := gOk_of fun ys hys y hy => by
      rcases List.mem_or_eq_of_mem_set hys with hys | rfl
      · exact gOk_at fi.gr ys hys y hy
      · rcases List.mem_or_eq_of_mem_set hy with hy | rfl
        · exact gOk_at fi.gr xi (List.mem_of_getElem? hxi) y hy
        · rfl
    refine ⟨(by show 2 ≤ sizeLine; decide), Less.of (q _ _ _ _ e3 (g3.vw (gOk_knt hgr)) (sml_of (by rw [List.length_set]; omega) fun ys hys => ?_) dock_knt (vd_dno ?_))⟩
    · have l2 := fi.l2
      rcases List.mem_or_eq_of_mem_set hys with hys | rfl
      · rw [fi.ev.2.2 ys hys]; omega
      · rw [List.length_set]; omega
    · rw [xssOf_map]
      refine dockOk_no fun z => z.2.2.2.2 ?_
      simp [List.getD_eq_getElem?_getD, hil, hln, hjn]
end
theorem plain_nl {G : WH} {w : W} (h : plainW w = true) : NL G w := by
  cases w with
  | non => trivial
  | bl b => trivial
  | int i => trivial
  | str x => trivial
  | tup x => trivial
  | _ => cases h
section
variable {A : Adr} {Q : VK2} {G : WH} {a b : Addr} {bs : List Addr} {xss : List (List W)} {xs : List W} {n k : Nat} {i j c way : Int}
  (g : Grid G a bs xss) (fi : Fine xss n i j) (hb : bs[k]? = some b) (hx : xss[k]? = some xs) (hG : G b = some (.lst xs))
  (q : ∀ G' w d v, Ext G G' → VW G' w v → Sml v → KnT G' d → vd v d = 1 → Q (.tup [w, d]) G')
include g fi hx hG q
theorem sp_way5 : rd_law_spoilt_3 A (ends Q) [some (.ref a), some (.tup [.int i, .int j]), some (.int c), some (.int k), some (.ref b), some (.int way), none, none, none] G := by
  refine ⟨_, _, .int _, .int _, dep_int, ifeq (fun _ => ?_) fun _ => sp_way6 g fi q _ _ _ _ _⟩
  refine ⟨.int j, rfl, (by show 2 ≤ sizeLine; decide), .int i, rfl, (by show 2 ≤ sizeLine; decide), _, lenW_l g.ha, .int j, rfl, (by show 2 ≤ sizeLine; decide), .int i, rfl, _, lenW_l hG, (by show 2 ≤ sizeLine; decide), (by show 4 ≤ sizeLine; decide), fun p hp => ⟨⟨by decide, by decide⟩, (by show (0 : Int) < 4; decide), ix_mod (n := 4) gup_same rfl (by decide) fun w hm => ⟨(by show 2 ≤ sizeLine; decide), ?_⟩⟩⟩
  have key : plainW w = true ∧ dockOk xss w = false := by
    have gl := g.len
    have hxn : xs.length = n := fi.ev.2.2 xs (List.mem_of_getElem? hx)
    obtain ⟨x0, hx0, hn0, hh⟩ := even_head fi.ev
    simp only [List.mem_cons, List.not_mem_nil, or_false] at hm
    rcases hm with rfl | rfl | rfl | rfl
    · exact ⟨rfl, dockOk_no fun z => absurd z.1 (by decide)⟩
    · exact ⟨rfl, dockOk_no fun z => absurd z.2.2.1 (by decide)⟩
    · exact ⟨rfl, dockOk_no fun z => by have := z.2.1; rw [List.length_map] at this; omega⟩
    · exact ⟨rfl, dockOk_no fun z => by have := z.2.2.2.1; omega⟩
  obtain ⟨h1, h2⟩ := fine_vw g fi (Ext.new (o := .lst _) hp)
  exact Less.of (q _ _ w _ (.new hp) h1 h2 (plain_knt key.1) (vd_dno (by rw [xssOf_map]; exact key.2)))
theorem sp_way4 : rd_law_spoilt_4 A (ends Q) [some (.ref a), some (.tup [.int i, .int j]), some (.int c), some (.int k), some (.ref b), some (.int way), none, none, none] G := by
  refine ⟨_, _, .int _, .int _, dep_int, ifeq (fun _ => ?_) fun _ => sp_way5 g fi hx hG q⟩
  refine ⟨_, rfl, fun p0 h0 => ⟨.int i, rfl, (by show 1 ≤ sizeLine; decide), (by show 1 ≤ sizeLine; decide), by simp, (by show 3 ≤ sizeLine; decide), .int j, rfl, (by show 2 ≤ sizeLine; decide), .int i, rfl, (by show 2 ≤ sizeLine; decide), (by show 8 ≤ sizeLine; decide), fun p hp => ⟨⟨by decide, by decide⟩, (by show (0 : Int) < 8; decide), ix_mod (n := 8) gup_same rfl (by decide) fun w hm => ⟨(by show 2 ≤ sizeLine; decide), ?_⟩⟩⟩⟩
  have key : ∀ G', G' p0 = some (.lst [.int i, .int j]) → KnT G' w ∧ isPr w = false := fun G' hG' => by
    simp only [List.cons_append, List.nil_append, List.mem_cons, List.not_mem_nil, or_false] at hm
    rcases hm with rfl | rfl | rfl | rfl | rfl | rfl | rfl | rfl
    · exact ⟨lst_knt hG', rfl⟩
    all_goals exact ⟨plain_knt rfl, rfl⟩
  have vw := fun {o : WO} => fine_vw g fi ((Ext.new h0).trans (Ext.new (o := o) hp))
  exact Less.of (q _ _ w _ ((Ext.new h0).trans (.new hp)) vw.1 (fine_vw g fi (Ext.refl G)).2 (key _ (gk gup_same hp)).1 (vd_dno (dockOk_npr (key (gup G p0 (.lst [.int i, .int j])) gup_same).2)))
theorem sp_way3 : rd_law_spoilt_5 A (ends Q) [some (.ref a), some (.tup [.int i, .int j]), some (.int c), some (.int k), some (.ref b), some (.int way), none, none, none] G := by
  refine ⟨_, _, .int _, .int _, dep_int, ifeq (fun _ => ?_) fun _ => sp_way4 g fi hx hG q⟩
  obtain ⟨x0, hx0, hn0, hh⟩ := even_head fi.ev
  obtain ⟨b0, hb0, hG0⟩ := g.row hx0
  have hat : atI (bs.map W.ref) 0 = some (.ref b0) := atI_nat (k := 0) (by rw [List.getElem?_map, hb0]; rfl)
  refine ⟨(by show 0 ≤ sizeLine; decide), fun p1 h1 => ⟨_, itemsW_l (gk g.ha h1), fun p2 h2 => ⟨(by show 0 ≤ sizeLine; decide), fun p3 h3 => ⟨(by show 1 ≤ sizeLine; decide), fun p4 h4 => ⟨(by show 0 ≤ sizeLine; decide), fun p5 h5 => ⟨(by show 0 ≤ sizeLine; decide), fun p6 h6 => ⟨(by show 2 ≤ sizeLine; decide), fun p7 h7 => ?_⟩⟩⟩⟩⟩⟩⟩
  have e17 := (((((nx h1 h2).trans (nx h2 h3)).trans (nx h3 h4)).trans (nx h4 h5)).trans (nx h5 h6)).trans (nx h6 h7)
  refine ix2_l (i := 0) (gk (e17 _ _ g.ha) h7) hat ⟨(by show 8 ≤ sizeLine; decide), fun p8 h8 => ⟨⟨by decide, by decide⟩, (by show (0 : Int) < 8; decide), ix_mod (n := 8) gup_same rfl (by decide) fun w hm => ⟨(by show 2 ≤ sizeLine; decide), ?_⟩⟩⟩
  have e := (e17.trans (nx h7 h8)).trans (Ext.new (o := .lst [W.ref p1, W.non, W.tup (bs.map W.ref), W.ref p2, W.ref p4, W.ref p7, W.ref b0, W.str "rows"]) h8)
  have f1 := ((((((nx h2 h3).trans (nx h3 h4)).trans (nx h4 h5)).trans (nx h5 h6)).trans (nx h6 h7)).trans (nx h7 h8)) _ _ gup_same
  have f2 := (((((nx h3 h4).trans (nx h4 h5)).trans (nx h5 h6)).trans (nx h6 h7)).trans (nx h7 h8)) _ _ gup_same
  have f3 := ((((nx h4 h5).trans (nx h5 h6)).trans (nx h6 h7)).trans (nx h7 h8)) _ _ gup_same
  have f4 := (((nx h5 h6).trans (nx h6 h7)).trans (nx h7 h8)) _ _ gup_same
  have f5 := ((nx h6 h7).trans (nx h7 h8)) _ _ gup_same
  have f6 := (nx h7 h8) _ _ gup_same
  have f7 := gk (o' := .lst [W.ref p1, W.non, W.tup (bs.map W.ref), W.ref p2, W.ref p4, W.ref p7, W.ref b0, W.str "rows"]) (gup_same (a := p7) (o := .lst [.ref p5, .ref p6])) h8
  suffices h : ∃ v, VW (gup _ p8 _) w v ∧ Sml v ∧ okRows v = false by
    obtain ⟨v, v1, v2, v3⟩ := h
    exact Less.of (q _ w _ v e v1 v2 dock_knt (vd_rno v3))
  simp only [List.mem_cons, List.not_mem_nil, or_false] at hm
  rcases hm with rfl | rfl | rfl | rfl | rfl | rfl | rfl | rfl
  · exact ⟨.inr [], ⟨p1, [], rfl, gk f1 h8, .nil⟩, ⟨by simp, by simp⟩, rfl⟩
  · exact ⟨.inl .non, ⟨rfl, trivial, .inl ⟨.non, .non, dep_non⟩⟩, trivial, rfl⟩
  · refine ⟨.inl (.tup (bs.map .ref)), ⟨rfl, trivial, .inl ⟨.tup (xss.map .lst), .tup ?_, .tup fun d hd => ?_⟩⟩, trivial, rfl⟩
    · refine Dens.of (paired_of (by simp [g.len]) fun r w d h1 h2 => ?_)
      rw [List.getElem?_map] at h1 h2
      cases hbr : bs[r]? with
      | none => rw [hbr] at h1; cases h1
      | some b' =>
        obtain ⟨ys, hy, hby⟩ := Paired.at g.hp hbr
        rw [hbr] at h1; rw [hy] at h2
        cases h1; cases h2
        exact .ref (e _ _ hby) (dens_self fun y hy' => (plain_den (n := 0) (gr_plain (gOk_at fi.gr ys (List.mem_of_getElem? hy) y hy'))).1)
    · obtain ⟨ys, hy, rfl⟩ := List.mem_map.mp hd
      exact .lst fun y hy' => (plain_den (G := G) (n := 36) (gr_plain (gOk_at fi.gr ys hy y hy'))).2.1
  · exact ⟨.inl (.ref p2), ⟨rfl, ⟨_, gk f2 h8⟩, .inr ⟨p2, rfl, gk f2 h8⟩⟩, trivial, rfl⟩
  · exact ⟨.inr [.inr []], ⟨p4, _, rfl, gk f4 h8, .cons ⟨p3, rfl, gk f3 h8, by simp⟩ .nil⟩, ⟨by simp, by simp⟩, rfl⟩
  · exact ⟨.inr [.inr [], .inr []], ⟨p7, _, rfl, f7, .cons ⟨p5, rfl, gk f5 h8, by simp⟩ (.cons ⟨p6, rfl, gk f6 h8, by simp⟩ .nil)⟩, ⟨by simp, by simp⟩, rfl⟩
  · refine ⟨.inr (x0.map .inl), ⟨b0, x0, rfl, e _ _ hG0, paired_of (by simp) fun r w v h1 h2 => ?_⟩, ⟨?_, by simp⟩, okRows_w0 ?_⟩
    · rw [List.getElem?_map, h1] at h2
      cases h2
      have hp := gr_plain (gOk_at fi.gr x0 (List.mem_of_getElem? hx0) w (List.mem_of_getElem? h1))
      obtain ⟨d1, d2, d3⟩ := plain_den (G := gup _ p8 _) (n := 28) hp
      exact ⟨rfl, plain_nl hp, .inl ⟨w, d1, d2⟩⟩
    · have := fi.l2; rw [List.length_map]; omega
    · cases x0 <;> rfl
  · exact ⟨.inl (.str "rows"), ⟨rfl, trivial, .inl ⟨.str "rows", .str _, dep_str⟩⟩, trivial, rfl⟩
end
theorem gr_plain1 {x : W} (h : isGr x = true) : plain1 x = true := by
  unfold isGr at h
  split at h
  · rfl
  · rfl
  · cases h
section
variable {A : Adr} {Q : VK2} {G : WH} {a b : Addr} {bs : List Addr} {xss : List (List W)} {xs : List W} {n k : Nat} {i j c way : Int}
  (g : Grid G a bs xss) (fi : Fine xss n i j) (hb : bs[k]? = some b) (hx : xss[k]? = some xs) (hG : G b = some (.lst xs))
  (q : ∀ G' w d v, Ext G G' → VW G' w v → Sml v → KnT G' d → vd v d = 1 → Q (.tup [w, d]) G')
include g fi hx q
theorem sp_ret {D : Ends2} (hD : ∀ w G', Q w G' → D.rt w G') {G1 : WH} (e : Ext G G1) (w : W) (u : RowVw) (hu : RowV G1 w u) (hs : ∀ ys, u = .inr ys → ys.length ≤ 3000) (bad : vd (.inr ((xss.map .inr).set k u)) (.tup [.int i, .int j]) = 1) (x4 x5 x6 x8 : Option W) :
    uRet (uTup (uCons (uOp add2 (uOp add2 (uSlice (uVar 0) uNoPart (uPart (uVar 3))) (uLst (uCons (uVar 7) uNil))) (uSlice (uVar 0) (uPart (uOp add2 (uVar 3) (uC (.int 1)))) uNoPart)) (uCons (uVar 1) uNil))) D
      [some (.ref a), some (.tup [.int i, .int j]), some (.int c), some (.int k), x4, x5, x6, some w, x8] G1 := by
  have gl := g.len
  have hkl := (List.getElem?_eq_some_iff.mp hx).1
  have l1 := fi.l1
  refine splice (τ := [some (.ref a), some (.tup [.int i, .int j]), some (.int c), some (.int k), x4, x5, x6, some w, x8]) (G := G1) (tw := uVar 7) (vx := 0) (vi := 3) (a := a) (L := bs.map .ref) (k := k) (C := fun w' G' => w' = w ∧ RowV G' w u) (fun w' G1 G2 e h => ⟨h.1, h.2.ext e.l⟩) rfl rfl (by simp; omega) (by simp; omega) (e _ _ g.ha) (fun G2 e2 R r => r w G2 (.refl _) ⟨rfl, hu.ext e2.l⟩) ?_
  intro G' p w' e' hC hp'
  refine ⟨(by show 2 ≤ sizeLine; decide), hD _ _ ?_⟩
  obtain ⟨rfl, hC⟩ := hC
  refine q G' (.ref p) _ (.inr ((xss.map .inr).set k u)) (e.trans e') ⟨p, _, rfl, hp', paired_set hC k ((g.ext (e.trans e').l).rows (gOk_knt fi.gr))⟩ ⟨by simp; omega, fun ys hy => ?_⟩ dock_knt bad
  rcases List.mem_or_eq_of_mem_set hy with hy | hy
  · obtain ⟨zs, hz, ez⟩ := List.mem_map.mp hy
    cases ez
    rw [fi.ev.2.2 _ hz]
    have := fi.l2
    omega
  · exact hs ys hy.symm
omit hx q g in
theorem way2_bad (hk : k < xss.length) {u : RowVw} (h : (∃ x, u = .inl x) ∨ ∃ ys, u = .inr ys ∧ ys.length = n + 1 ∧ xss.length ≠ 1) : okRows (.inr ((xss.map .inr).set k u)) = false := by
  have hat : ((xss.map Sum.inr).set k u)[k]? = some u := List.getElem?_set_self (by simpa using hk)
  rcases h with ⟨x, rfl⟩ | ⟨ys, rfl, hy, h1⟩
  · exact okRows_no hat rfl
  · by_cases hk0 : k = 0
    · subst hk0
      have h2 : 1 < xss.length := by omega
      have hw := wid_at hat
      have h1 : ((xss.map Sum.inr : List RowVw).set 0 (Sum.inr ys))[1]? = some (Sum.inr xss[1] : RowVw) := by
        rw [List.getElem?_set_ne (by decide), List.getElem?_map, List.getElem?_eq_getElem h2]; rfl
      refine okRows_no h1 ?_
      rw [hw]
      have := fi.ev.2.2 xss[1] (List.getElem_mem h2)
      simp [rowOk]; omega
    · have h0 : 0 < xss.length := by omega
      have h1 : ((xss.map Sum.inr : List RowVw).set k (Sum.inr ys))[0]? = some (Sum.inr xss[0] : RowVw) := by
        rw [List.getElem?_set_ne hk0, List.getElem?_map, List.getElem?_eq_getElem h0]; rfl
      have hw := wid_at h1
      refine okRows_no hat ?_
      rw [hw]
      have := fi.ev.2.2 xss[0] (List.getElem_mem h0)
      simp [rowOk]; omega
include hG
theorem sp_way2 : rd_law_spoilt_7 A (ends Q) [some (.ref a), some (.tup [.int i, .int j]), some (.int c), some (.int k), some (.ref b), some (.int way), none, none, none] G := by
  refine ⟨_, _, .int _, .int _, dep_int, ifeq (fun _ => ?_) fun _ => sp_way3 g fi hx hG q⟩
  have hkl := (List.getElem?_eq_some_iff.mp hx).1
  have hxn : xs.length = n := fi.ev.2.2 xs (List.mem_of_getElem? hx)
  have l2 := fi.l2
  have gl := g.len
  have hgx := gOk_at fi.gr xs (List.mem_of_getElem? hx)
  refine ⟨(by show 1 ≤ sizeLine; decide), fun p1 h1 => ⟨_, _, gk hG h1, gup_same, sz (by simp; omega), fun p2 h2 => ⟨(by show 2 ≤ sizeLine; decide), (by show 1 ≤ sizeLine; decide), fun p3 h3 => ⟨_, _, gk (gk (gk hG h1) h2) h3, gup_same, sz (by simp; omega), fun p4 h4 => ⟨_, itemsW_l (gk (gk (gk (gk hG h1) h2) h3) h4), fun p5 h5 => ⟨(by show 6 ≤ sizeLine; decide), fun p6 h6 => ⟨⟨by decide, by decide⟩, (by show (0 : Int) < 6; decide), ix_mod (n := 6) gup_same rfl (by decide) fun w hm => ?_⟩⟩⟩⟩⟩⟩⟩
  have e := (((((nx h1 h2).trans (nx h2 h3)).trans (nx h3 h4)).trans (nx h4 h5)).trans (nx h5 h6)).trans (Ext.new (o := .lst [W.ref p2, W.ref p4, W.tup xs, W.non, W.ref p5, W.str "row"]) h6)
  have f2 := gk (o' := .lst [W.ref p2, W.ref p4, W.tup xs, W.non, W.ref p5, W.str "row"]) ((((nx h3 h4).trans (nx h4 h5)).trans (nx h5 h6)) _ _ gup_same) h6
  have f4 := gk (o' := .lst [W.ref p2, W.ref p4, W.tup xs, W.non, W.ref p5, W.str "row"]) ((nx h5 h6) _ _ gup_same) h6
  have f5 := gk (o' := .lst [W.ref p2, W.ref p4, W.tup xs, W.non, W.ref p5, W.str "row"]) (gup_same (G := _) (a := p5) (o := .dct true [])) h6
  revert e f2 f4 f5
  generalize gup _ p6 _ = G6
  intro e f2 f4 f5
  -- a list is too long, or, of one row, made a tuple
  have lists : ∀ (p : Addr) (y : W), plainW y = true → plain1 y = true → G6 p = some (.lst (xs ++ [y])) → rd_law_spoilt_6 A (ends Q) [some (.ref a), some (.tup [.int i, .int j]), some (.int c), some (.int k), some (.ref b), some (.int way), none, some (.ref p), none] G6 := by
    intro p y hy hy1 hp
    have hall : ∀ x ∈ xs ++ [y], plainW x = true ∧ plain1 x = true := fun x hx' => by
      rcases List.mem_append.mp hx' with z | z
      · exact ⟨gr_plain (hgx x z), gr_plain1 (hgx x z)⟩
      · have : x = y := by simpa using z
        subst this; exact ⟨hy, hy1⟩
    refine ⟨_, lenW_l (e _ _ g.ha), _, _, .int _, .int _, dep_int, ifeq (fun e1 => ?_) fun e1 => ?_⟩
    · refine ⟨_, _, (li_ty hp).1, (li_ty hp).2, iteT ⟨_, itemsW_l hp, ?_⟩⟩
      have hpl : plainW (.tup (xs ++ [y])) = true := List.all_eq_true.mpr fun x hx' => (hall x hx').2
      obtain ⟨d1, d2, d3⟩ := plain_den (G := G6) (n := 28) hpl
      exact sp_ret g fi hx q (fun _ _ => Less.of) e _ (.inl (.tup (xs ++ [y]))) ⟨rfl, trivial, .inl ⟨_, d1, d2⟩⟩ (fun _ z => by cases z) (vd_rno (way2_bad fi hkl (.inl ⟨_, rfl⟩))) _ _ _ _
    · refine iteF ?_
      rw [List.length_map] at e1
      refine sp_ret g fi hx q (fun _ _ => Less.of) e _ (.inr (xs ++ [y])) ⟨p, rfl, hp, fun x hx' => plain_knt (hall x hx').1⟩ (fun ys z => ?_) (vd_rno (way2_bad fi hkl (.inr ⟨_, rfl, by simp; omega, by omega⟩))) _ _ _ _
      cases z
      simp; omega
  -- what is no list
  have others : ∀ w, NL G6 w → SE G6 w → rd_law_spoilt_6 A (ends Q) [some (.ref a), some (.tup [.int i, .int j]), some (.int c), some (.int k), some (.ref b), some (.int way), none, some w, none] G6 := by
    intro w hn hse
    have fin := sp_ret (c := c) g fi hx q (D := ends Q) (fun _ _ => Less.of) e w (.inl w) ⟨rfl, hn, hse⟩ (fun _ z => by cases z) (vd_rno (way2_bad fi hkl (.inl ⟨_, rfl⟩))) (some (.ref b)) (some (.int way)) none none
    obtain ⟨t, t1, t2⟩ := nl_ty hn
    refine ⟨_, lenW_l (e _ _ g.ha), _, _, .int _, .int _, dep_int, ifeq (fun e1 => ?_) fun e1 => ?_⟩
    · exact ⟨t, false, t1, t2, iteF fin⟩
    · exact iteF fin
  simp only [List.mem_cons, List.not_mem_nil, or_false] at hm
  rcases hm with rfl | rfl | rfl | rfl | rfl | rfl
  · exact lists p2 .non rfl rfl f2
  · exact lists p4 _ rfl rfl f4
  · have hpl : plainW (.tup xs) = true := List.all_eq_true.mpr fun x hx' => gr_plain1 (hgx x hx')
    obtain ⟨d1, d2, d3⟩ := plain_den (G := G6) (n := 28) hpl
    exact others _ trivial (.inl ⟨_, d1, d2⟩)
  · exact others _ trivial (.inl ⟨_, .non, dep_non⟩)
  · exact others _ ⟨_, f5⟩ (.inr ⟨_, rfl⟩)
  · exact others _ trivial (.inl ⟨_, .str _, dep_str⟩)
theorem sp_way0 : rd_law_spoilt_9 A (ends Q) [some (.ref a), some (.tup [.int i, .int j]), some (.int c), some (.int k), some (.ref b), some (.int way), none, none, none] G := by
  refine ifd (fun _ => ?_) fun _ => sp_way2 g fi hx hG q
  have hkl := (List.getElem?_eq_some_iff.mp hx).1
  have hxn : xs.length = n := fi.ev.2.2 xs (List.mem_of_getElem? hx)
  have l2 := fi.l2
  have n0 := fi.ev.2.1
  have hgx := gOk_at fi.gr xs (List.mem_of_getElem? hx)
  refine ⟨⟨by decide, by decide⟩, _, lenW_l hG, by omega, ?_⟩
  have m0 := Int.emod_nonneg (c / 49) (show (xs.length : Int) ≠ 0 by omega)
  have m1 := Int.emod_lt_of_pos (c / 49) (show (0 : Int) < xs.length by omega)
  obtain ⟨m, hm⟩ := Int.eq_ofNat_of_zero_le m0
  show rd_law_spoilt_8 A (ends Q) [some (.ref a), some (.tup [.int i, .int j]), some (.int c), some (.int k), some (.ref b), some (.int way), some (.int (c / 49 % (xs.length : Int))), none, none] G
  rw [hm]
  have hml : m < xs.length := by omega
  refine splice (τ := [some (.ref a), some (.tup [.int i, .int j]), some (.int c), some (.int k), some (.ref b), some (.int way), some (.int m), none, none]) (G := G) (tw := uCall (sp_law_no_ground A) [] (uCons (uOp iDiv (uVar 2) (uC (.int 343))) uNil)) (vx := 4) (vi := 6) (a := b) (L := xs) (k := m) (C := fun x G' => KnT G' x ∧ isGr x = false) (fun x G1 G2 e h => ⟨h.1.ext e.l, h.2⟩) rfl rfl hml (by omega) hG (fun G2 e2 R r => ⟨⟨by decide, by decide⟩, _, rfl, fun G' x e' h1 h2 _ => r x G' e' ⟨h1, h2⟩⟩) ?_
  rintro G' p x e ⟨hC, hC2⟩ hp
  refine sp_ret g fi hx q (fun _ _ => Less.of) e _ (.inr (xs.set m x)) ⟨p, rfl, hp, fun y hy => ?_⟩ (fun ys z => ?_) (vd_gno ?_) _ _ _ _
  · rcases List.mem_or_eq_of_mem_set hy with hy | rfl
    · exact plain_knt (gr_plain (hgx y hy))
    · exact hC
  · cases z
    rw [List.length_set]; omega
  · rw [show (xss.map Sum.inr).set k (Sum.inr (xs.set m x)) = ((xss.set k (xs.set m x)).map Sum.inr : List RowVw) from (List.map_set).symm, xssOf_map]
    exact gOk_no (i := k) (k := m) (List.getElem?_set_self hkl) (List.getElem?_set_self hml) hC2
end
theorem hd_law_spoilt (A : Adr) (ws : List W) (G : WH) (Q : VK2) (E : XK2) (h : sp_law_spoilt A ws G Q E) : rd_law_spoilt A (ends Q) (start2 ["_law_rows_here", "_law_dock", "_law_cell", "_law_at", "_law_row", "_law_way", "_law_spot", "_law_wrong", "_law_shut"] ws) G := by
  obtain ⟨a, bs, xss, n, i, j, c, rfl, g, fi, q⟩ := h
  have gl := g.len
  have hl : 0 < xss.length := List.length_pos_iff.mpr fi.ev.1
  refine ⟨⟨by decide, by decide⟩, _, lenW_l g.ha, by rw [List.length_map]; omega, ?_⟩
  have m0 := Int.emod_nonneg (c / 7) (show (((bs.map W.ref).length : Nat) : Int) ≠ 0 by rw [List.length_map]; omega)
  have m1 := Int.emod_lt_of_pos (c / 7) (show (0 : Int) < ((bs.map W.ref).length : Nat) by rw [List.length_map]; omega)
  obtain ⟨k, hk⟩ := Int.eq_ofNat_of_zero_le m0
  rw [hk, List.length_map] at m1
  have hkl : k < xss.length := by omega
  have hx : xss[k]? = some xss[k] := List.getElem?_eq_getElem hkl
  obtain ⟨b, hb, hG⟩ := g.row hx
  show rd_law_spoilt_11 A (ends Q) [some (.ref a), some (.tup [.int i, .int j]), some (.int c), some (.int (c / 7 % ((bs.map W.ref).length : Nat))), none, none, none, none, none] G
  rw [hk]
  refine ix2_l g.ha (atI_nat (by rw [List.getElem?_map, hb]; rfl)) ⟨(by show (0 : Int) < 7; decide), ?_⟩
  exact sp_way0 g fi hx hG q
theorem vw_eqS {G : WH} {z w : W} {v : RV} {Q : VK2} (hz : VW G z v) (hw : VW G w v) (q : Q (.bl false) G) : eqS z w G Q := by
  cases v with
  | inl x =>
    obtain ⟨rfl, _, ht⟩ := hz
    obtain ⟨rfl, _, _⟩ := hw
    rcases ht with ⟨d, h1, h2⟩ | ⟨a, rfl, h⟩
    · refine .inl ⟨d, d, h1, h1, h2, ?_⟩
      rw [eqD_refl]; exact q
    · exact .inr ⟨.inr ⟨a, rfl, rfl, h⟩, q⟩
  | inr vs =>
    obtain ⟨a, rs, rfl, ha, hp⟩ := hz
    obtain ⟨b, ss, rfl, hb, hq⟩ := hw
    refine .inr ⟨.inl ⟨a, b, rs, ss, rfl, rfl, ha, hb, paired_of ((Paired.len hp).trans (Paired.len hq).symm) fun i x y h1 h2 => ?_⟩, q⟩
    obtain ⟨u, hu, r1⟩ := Paired.at hp h1
    obtain ⟨u', hu', r2⟩ := Paired.at hq h2
    rw [hu] at hu'; cases hu'
    have se : ∀ x, SE G x → EqN0 G x x := fun x h => h.imp (fun ⟨d, a, b⟩ => ⟨d, a, a, b⟩) fun ⟨a, h⟩ => ⟨a, h, h⟩
    cases u with
    | inl t =>
      obtain ⟨rfl, _, h⟩ := r1
      obtain ⟨rfl, _, _⟩ := r2
      exact .inl (se _ h)
    | inr xs =>
      obtain ⟨c, rfl, hc, hk⟩ := r1
      obtain ⟨d, rfl, hd, _⟩ := r2
      refine .inr ⟨c, d, xs, xs, rfl, rfl, hc, hd, paired_of rfl fun i x y h1 h2 => ?_⟩
      rw [h1] at h2; cases h2
      exact se x (hk x (List.mem_of_getElem? h1)).2.1
theorem okRows_even {xss : List (List W)} {n : Nat} (ev : Even xss n) : okRows (.inr (xss.map .inr)) = true := by
  obtain ⟨x0, hx0, hn0, hh⟩ := even_head ev
  have hw : wid (xss.map .inr) = x0.length := wid_at (by rw [List.getElem?_map, hx0]; rfl)
  show (decide (0 < wid (xss.map .inr)) && (xss.map Sum.inr : List RowVw).all (rowOk (wid (xss.map .inr)))) = true
  rw [hw, hn0, Bool.and_eq_true, decide_eq_true_eq, List.all_eq_true]
  refine ⟨ev.2.1, fun v hv => ?_⟩
  obtain ⟨xs, hx, rfl⟩ := List.mem_map.mp hv
  simp [rowOk, ev.2.2 xs hx]
theorem vd_even {xss : List (List W)} {n : Nat} {d : W} (ev : Even xss n) : vd (.inr (xss.map .inr)) d = vd2 xss d := by
  unfold vd
  rw [okRows_even ev, if_pos rfl, xssOf_map]
theorem Fine.made {xss : List (List W)} {n : Nat} {i j : Int} (fi : Fine xss n i j) : vd (.inr (xss.map .inr)) (.tup [.int i, .int j]) = 0 := by
  obtain ⟨x0, hx0, hn0, hh⟩ := even_head fi.ev
  rw [vd_even fi.ev]
  unfold vd2
  rw [fi.gr, fi.dk, if_pos rfl, if_pos rfl, if_neg]
  rw [hh]
  have := Nat.mul_le_mul fi.l1 fi.l2
  omega
abbrev oneW : W := .tup [.int 1, .int 0]
abbrev greatX (s0 s1 : Nat) : List (List W) := List.replicate s0 (List.replicate s1 oneW)
theorem great_even {s0 s1 : Nat} (h0 : 0 < s0) (h1 : 0 < s1) : Even (greatX s0 s1) s1 := by
  refine ⟨?_, h1, fun xs hx => ?_⟩
  · intro z
    have : (greatX s0 s1).length = 0 := by rw [z]; rfl
    rw [List.length_replicate] at this
    omega
  · rw [(List.mem_replicate.mp hx).2, List.length_replicate]
theorem great_gr {s0 s1 : Nat} : gOk (greatX s0 s1) = true := gOk_of fun xs hx x hx' => by
  rw [(List.mem_replicate.mp hx).2] at hx'
  rw [(List.mem_replicate.mp hx').2]
  rfl
theorem great_vd {s0 s1 : Nat} (h0 : 0 < s0) (h1 : 0 < s1) : vd (.inr ((greatX s0 s1).map .inr)) (.tup [.int 0, .int 0]) = if 2500 < s0 * s1 then 2 else 0 := by
  have hh : ((greatX s0 s1).headD []) = List.replicate s1 oneW := by
    cases s0 with
    | zero => omega
    | succ m => rfl
  have he : (greatX s0 s1).getD (Int.toNat 0) [] = List.replicate s1 oneW := by
    cases s0 with
    | zero => omega
    | succ m => rfl
  have hd : dockOk (greatX s0 s1) (.tup [.int 0, .int 0]) = true := by
    refine dockOk_yes ⟨by decide, by rw [List.length_replicate]; omega, by decide, by rw [hh, List.length_replicate]; omega, ?_⟩
    rw [he]
    cases s1 with
    | zero => omega
    | succ m => show oneW ≠ .non; exact nofun
  rw [vd_even (great_even h0 h1)]
  unfold vd2
  rw [great_gr, hd, if_pos rfl, if_pos rfl, hh, List.length_replicate, List.length_replicate]
theorem atI_last {α : Type} {xs : List α} {x : α} (h : xs[xs.length - 1]? = some x) : atI xs (-1) = some x ∧ ixN xs.length (-1) = some (xs.length - 1) := by
  have hl := (List.getElem?_eq_some_iff.mp h).1
  have e : ixN xs.length (-1) = some (xs.length - 1) := by
    unfold ixN
    rw [if_neg (by decide), if_pos (by omega)]
    congr 1
    omega
  refine ⟨?_, e⟩
  unfold atI
  rw [e]
  exact h
section
variable {A : Adr} {Q : VK2} (q : ∀ G', Q (.bl true) G')
include q
theorem law_ret (G : WH) (p : Addr) (xss : List (List W)) (w : Nat) (hv : VW G (.ref p) (.inr (xss.map .inr))) (hs : Sml (.inr (xss.map .inr))) (hw : vd (.inr (xss.map .inr)) (.tup [.int 0, .int 0]) = w)
    (x0 x1 x2 x3 x4 x5 x6 x7 x8 x9 x10 : Option W) : uRet (uOp (eq2 false) (uCall (sp_law_said A) [] (uCons (uVar 11) (uCons (uTup (uCons (uC (.int 0)) (uCons (uC (.int 0)) uNil))) uNil))) (uVar 12)) (ends Q) [x0, x1, x2, x3, x4, x5, x6, x7, x8, x9, x10, some (.ref p), some (.str (wordOf w))] G := by
  refine ⟨(by show 2 ≤ sizeLine; decide), .ref p, _, _, rfl, hv, hs, dock_knt, fun G' e => ?_⟩
  rw [hw]
  refine ⟨_, _, .str _, .str _, dep_str, ?_⟩
  rw [eqD_refl]
  exact Less.of (q _)
theorem law_2 (G : WH) (p : Addr) (cs : List Addr) (s0 s1 : Nat) (h0 : 0 < s0) (h1 : 0 < s1) (z0 : s0 ≤ 3000) (z1 : s1 ≤ 3000) (g : Grid G p cs (greatX s0 s1)) (c : Int)
    (x0 x1 x2 x3 x4 x5 x6 x7 x8 x10 : Option W) : rd_law_2 A (ends Q) [x0, x1, x2, x3, x4, x5, x6, x7, x8, some (.int c), x10, some (.ref p), some (.str (wordOf (if 2500 < s0 * s1 then 2 else 0)))] G := by
  have sml : Sml (.inr ((greatX s0 s1).map .inr)) := sml_of (by rw [List.length_replicate]; exact z0) fun xs hx => by rw [(List.mem_replicate.mp hx).2, List.length_replicate]; exact z1
  have gl := g.len
  rw [List.length_replicate] at gl
  refine ⟨⟨by decide, by decide⟩, (by show (0 : Int) < 3; decide), _, _, .int _, .int _, dep_int, ifeq (fun _ => ?_) fun _ => ?_⟩
  · refine ⟨⟨by decide, by decide⟩, _, rfl, fun G' x e hk hg hpl => ?_⟩
    have g' := g.ext e.l
    have hrow : (greatX s0 s1)[s0 - 1]? = some (List.replicate s1 oneW) := by rw [List.getElem?_replicate, if_pos (by omega)]
    obtain ⟨b, hb, hGb⟩ := g'.row hrow
    have hat : atI (cs.map W.ref) (-1) = some (.ref b) := (atI_last (by rw [List.length_map, gl, List.getElem?_map, hb]; rfl)).1
    have hix : ixN (List.replicate s1 oneW).length (-1) = some (s1 - 1) := by
      have := (atI_last (xs := List.replicate s1 oneW) (x := oneW) (by rw [List.length_replicate, List.getElem?_replicate, if_pos (by omega)])).2
      rw [this, List.length_replicate]
    show ix2 (W.ref p) (W.int (-1)) G' (fun o G1 => set2 o (W.int (-1)) x G1 _)
    refine ix2_l g'.ha hat ?_
    refine set2_l hGb hix ?_
    have g3 := g'.set (ys := (List.replicate s1 oneW).set (s1 - 1) x) hb
    have hkx : KnT (gup G' b (.lst ((List.replicate s1 oneW).set (s1 - 1) x))) x := by
      rcases hpl with hpl | ⟨l, rfl⟩
      · exact plain_knt hpl
      · by_cases hl : l = b
        · subst hl; exact lst_knt gup_same
        · rcases hk.1 with ⟨ys, h⟩ | ⟨ys, h⟩
          · exact lst_knt (xs := ys) (by rw [gup_ne hl]; exact h)
          · exact dct_knt (xs := ys) (by rw [gup_ne hl]; exact h)
    have hno : gOk ((greatX s0 s1).set (s0 - 1) ((List.replicate s1 oneW).set (s1 - 1) x)) = false :=
      gOk_no (i := s0 - 1) (k := s1 - 1) (List.getElem?_set_self (by rw [List.length_replicate]; omega)) (List.getElem?_set_self (by rw [List.length_replicate]; omega)) hg
    refine law_ret q _ p _ 1 (g3.vw fun ys hys y hy => ?_) (sml_of (by rw [List.length_set, List.length_replicate]; exact z0) fun ys hys => ?_) (vd_gno (by rw [xssOf_map]; exact hno)) _ _ _ _ _ _ _ _ _ _ _
    · have one : ∀ y, y ∈ List.replicate s1 oneW → KnT (gup G' b (.lst ((List.replicate s1 oneW).set (s1 - 1) x))) y := fun y hy => by
        rw [(List.mem_replicate.mp hy).2]; exact plain_knt rfl
      rcases List.mem_or_eq_of_mem_set hys with hys | rfl
      · rw [(List.mem_replicate.mp hys).2] at hy; exact one y hy
      · rcases List.mem_or_eq_of_mem_set hy with hy | rfl
        · exact one y hy
        · exact hkx
    · rcases List.mem_or_eq_of_mem_set hys with hys | rfl
      · rw [(List.mem_replicate.mp hys).2, List.length_replicate]; exact z1
      · rw [List.length_set, List.length_replicate]; exact z1
  · exact law_ret q _ p _ _ (g.vw (gOk_knt great_gr)) sml (great_vd h0 h1) _ _ _ _ _ _ _ _ _ _ _
theorem law_4 (G : WH) (s0 s1 : Nat) (h0 : 0 < s0) (h1 : 0 < s1) (z0 : s0 ≤ 3000) (z1 : s1 ≤ 3000) (c : Int) (r : Nat) (hr : c % 8 = r) (hr8 : r < 8) (hs : r < 4 ↔ ¬ 2500 < s0 * s1)
    (x0 x1 x2 x3 x4 x5 x6 x7 x8 : Option W) : rd_law_4 A (ends Q) [x0, x1, x2, x3, x4, x5, x6, x7, x8, some (.int c), some (.tup [.int s0, .int s1]), none, none] G := by
  refine ⟨.int s0, rfl, by omega, by omega, ?_⟩
  refine compGo_inv (fun m acc τ G' => (∃ y, τ = [y, some (.tup [.int s0, .int s1])]) ∧ Ext G G' ∧ ∃ cs : List Addr, acc = cs.map .ref ∧ Paired (fun b xs => G' b = some (.lst xs)) cs (greatX m s1) ∧ cs.Nodup) _ 0 _ _ _
    ⟨⟨_, rfl⟩, .refl _, [], rfl, .nil, by simp⟩ (fun _ _ _ _ _ _ _ => trivial) (fun m _ _ _ _ hm h => ?_) ?_ ?_
  · obtain ⟨_, _, cs, rfl, hp, _⟩ := h
    have := Paired.len hp
    rw [List.length_replicate] at this
    rw [rangeW_len] at hm
    exact sz3 (by rw [List.length_map]; omega)
  · rintro m w acc τ G' hw ⟨⟨y, rfl⟩, e, cs, rfl, hp, nd⟩ C1 C2 hC1 hC2
    rw [Nat.zero_add] at hp
    have hm := (rangeW_get hw).1
    refine ⟨(by show 2 ≤ sizeLine; decide), (by show 1 ≤ sizeLine; decide), fun p1 hp1 => ⟨.int s1, rfl, ⟨_, gup_same, by omega, by omega, ?_, fun p2 hp2 => ?_⟩⟩⟩
    · have : ([oneW] : List W).length * (s1 : Int).toNat ≤ 3000 := by simp; omega
      exact Nat.le_of_lt (sz3 this)
    · have fl : (List.replicate (s1 : Int).toNat [oneW]).flatten = List.replicate s1 oneW := by
        simp
      refine hC1 _ _ _ _ (fun _ _ z => z) ⟨⟨_, rfl⟩, (e.trans (.new hp1)).trans (.new hp2), cs ++ [p2], by simp, ?_, ?_⟩
      · rw [Nat.zero_add, show greatX (m + 1) s1 = greatX m s1 ++ [List.replicate s1 oneW] from List.replicate_succ']
        exact paired_snoc (Paired.mapP hp fun _ _ z => gk (gk z hp1) hp2) (by rw [gup_same, fl])
      · rw [List.nodup_append]
        refine ⟨nd, by simp, fun x hx y hy z => ?_⟩
        have : y = p2 := by simpa using hy
        subst this z
        obtain ⟨r, hr, er⟩ := List.mem_iff_getElem.mp hx
        obtain ⟨zs, _, hz⟩ := Paired.at hp (List.getElem?_eq_getElem hr)
        rw [er] at hz
        rw [gk hz hp1] at hp2; cases hp2
  · rintro acc τ G1 ⟨_, e1, cs, rfl, hp, nd⟩ p hp1
    rw [rangeW_len, Nat.zero_add, Int.toNat_natCast] at hp
    have hpn : p ∉ cs := fun z => by
      obtain ⟨r, hr, er⟩ := List.mem_iff_getElem.mp z
      obtain ⟨zs, _, hz⟩ := Paired.at hp (List.getElem?_eq_getElem hr)
      rw [er, hp1] at hz; cases hz
    have g2 : Grid (gup G1 p (.lst (cs.map .ref))) p cs (greatX s0 s1) := ⟨gup_same, Paired.mapP hp fun _ _ z => gk z hp1, List.nodup_cons.mpr ⟨hpn, nd⟩⟩
    refine ⟨(by show 2 ≤ sizeLine; decide), fun p' hp' => ⟨(by show (0 : Int) < 8; decide), ⟨by decide, by decide⟩, ?_⟩⟩
    have fin := law_2 q (A := A) (gup (gup G1 p (.lst (cs.map .ref))) p' (.lst [.str "made", .str "many"])) p cs s0 s1 h0 h1 z0 z1 (g2.ext (Ext.new hp').l) c x0 x1 x2 x3 x4 x5 x6 x7 x8 (some (.tup [.int s0, .int s1]))
    by_cases h : r < 4
    · rw [if_neg (hs.mp h)] at fin
      refine ix2_l gup_same (w := .str "made") ?_ fin
      rw [hr, show (r : Int) / 4 = 0 by omega]
      rfl
    · rw [if_pos (Decidable.not_not.mp fun z => h (hs.mpr z))] at fin
      refine ix2_l gup_same (w := .str "many") ?_ fin
      rw [hr, show (r : Int) / 4 = 1 by omega]
      rfl
theorem law_5 (G : WH) (c : Int) (x0 x1 x2 x3 x4 x5 x6 x7 x8 : Option W) : rd_law_5 A (ends Q) [x0, x1, x2, x3, x4, x5, x6, x7, x8, some (.int c), none, none, none] G := by
  refine ⟨(by show 2 ≤ sizeLine; decide), (by show 2 ≤ sizeLine; decide), (by show 2 ≤ sizeLine; decide), (by show 2 ≤ sizeLine; decide), (by show 2 ≤ sizeLine; decide), (by show 2 ≤ sizeLine; decide), (by show 2 ≤ sizeLine; decide), (by show 2 ≤ sizeLine; decide), (by show 8 ≤ sizeLine; decide), fun p hp => ⟨(by show (0 : Int) < 8; decide), ?_⟩⟩
  have r0 := Int.emod_nonneg c (show (8 : Int) ≠ 0 by decide)
  have r1 := Int.emod_lt_of_pos c (show (0 : Int) < 8 by decide)
  obtain ⟨r, hr⟩ := Int.eq_ofNat_of_zero_le r0
  have hr8 : r < 8 := by omega
  obtain ⟨s0, s1, a1, a2, a3, a4, a5, a6⟩ : ∃ s0 s1 : Nat, 0 < s0 ∧ 0 < s1 ∧ s0 ≤ 3000 ∧ s1 ≤ 3000 ∧ (r < 4 ↔ ¬ 2500 < s0 * s1) ∧ atI [W.tup [.int 50, .int 50], .tup [.int 1, .int 2500], .tup [.int 2500, .int 1], .tup [.int 25, .int 100], .tup [.int 2501, .int 1], .tup [.int 1, .int 2501], .tup [.int 51, .int 50], .tup [.int 2, .int 1251]] (c % 8) = some (.tup [.int s0, .int s1]) := by
    rw [hr]
    have : r = 0 ∨ r = 1 ∨ r = 2 ∨ r = 3 ∨ r = 4 ∨ r = 5 ∨ r = 6 ∨ r = 7 := by omega
    clear hr hr8 r0 r1
    rcases this with rfl | rfl | rfl | rfl | rfl | rfl | rfl | rfl
    · exact ⟨50, 50, by decide, by decide, by decide, by decide, by decide, rfl⟩
    · exact ⟨1, 2500, by decide, by decide, by decide, by decide, by decide, rfl⟩
    · exact ⟨2500, 1, by decide, by decide, by decide, by decide, by decide, rfl⟩
    · exact ⟨25, 100, by decide, by decide, by decide, by decide, by decide, rfl⟩
    · exact ⟨2501, 1, by decide, by decide, by decide, by decide, by decide, rfl⟩
    · exact ⟨1, 2501, by decide, by decide, by decide, by decide, by decide, rfl⟩
    · exact ⟨51, 50, by decide, by decide, by decide, by decide, by decide, rfl⟩
    · exact ⟨2, 1251, by decide, by decide, by decide, by decide, by decide, rfl⟩
  exact ix2_l gup_same a6 (law_4 q _ s0 s1 a1 a2 a3 a4 c r hr hr8 a5 x0 x1 x2 x3 x4 x5 x6 x7 x8)
end
theorem fine_set {xss : List (List W)} {m n i j : Nat} {xi : List W} {x : Int} (hm : m ≤ 6) (hn : n ≤ 6) (hn0 : 0 < n) (hl : xss.length = m) (hr : ∀ xs ∈ xss, xs.length = n) (hg : gOk xss = true) (hi : i < m) (hj : j < n) (hx : xss[i]? = some xi) (hx1 : 1 ≤ x) :
    Fine (xss.set i (xi.set j (.tup [.int x, .int 0]))) n i j := by
  have hil : i < xss.length := by omega
  have hxi : xi.length = n := hr xi (List.mem_of_getElem? hx)
  have ev : Even (xss.set i (xi.set j (.tup [.int x, .int 0]))) n := by
    refine ⟨fun z => ?_, hn0, fun ys hys => ?_⟩
    · have : (xss.set i (xi.set j (.tup [.int x, .int 0]))).length = 0 := by rw [z]; rfl
      rw [List.length_set] at this
      omega
    · rcases List.mem_or_eq_of_mem_set hys with hys | rfl
      · exact hr ys hys
      · rw [List.length_set]; exact hxi
  obtain ⟨x0, hx0, hn0', hh⟩ := even_head ev
  refine ⟨ev, by rw [List.length_set]; omega, hn, gOk_of fun ys hys y hy => ?_, dockOk_yes ⟨by omega, by rw [List.length_set]; omega, by omega, by omega, ?_⟩⟩
  · rcases List.mem_or_eq_of_mem_set hys with hys | rfl
    · exact gOk_at hg ys hys y hy
    · rcases List.mem_or_eq_of_mem_set hy with hy | rfl
      · exact gOk_at hg xi (List.mem_of_getElem? hx) y hy
      · exact decide_eq_true hx1
  · have e1 : (xss.set i (xi.set j (.tup [.int x, .int 0]))).getD (Int.toNat (i : Int)) [] = xi.set j (.tup [.int x, .int 0]) := by
      simp [List.getD_eq_getElem?_getD, hil]
    have e2 : (xi.set j (.tup [.int x, .int 0])).getD (Int.toNat (j : Int)) .non = .tup [.int x, .int 0] := by
      simp [List.getD_eq_getElem?_getD, hxi, hj]
    rw [e1, e2]
    exact nofun
theorem nat_mod {c : Int} {n : Nat} (h : 0 < n) : ∃ k : Nat, c % (n : Int) = k ∧ k < n := by
  have h0 := Int.emod_nonneg c (show (n : Int) ≠ 0 by omega)
  have h1 := Int.emod_lt_of_pos c (show (0 : Int) < n by omega)
  obtain ⟨k, hk⟩ := Int.eq_ofNat_of_zero_le h0
  exact ⟨k, hk, by omega⟩
theorem law_8 {A : Adr} {Q : VK2} (q : ∀ G', Q (.bl true) G') (ns : List Int) (G : WH) (a : Addr) (bs : List Addr) (xss : List (List W)) (n : Nat) (i j : Int) (g : Grid G a bs xss) (fi : Fine xss n i j) (w d y : W) (v : RV) (hw : VW G w v) (hy : VW G y v) (hs : Sml v) (hk : KnT G d) (hb : vd v d = 1)
    (x1 x2 : Option W) : rd_law_8 A (ends Q) [some (.scr (ns.map .int)), x1, x2, some (.ref a), some (.tup [.int i, .int j]), some w, some d, some y, none, none, none, none, none] G := by
  have hsx : Sml (.inr (xss.map .inr)) := (fine_vw g fi (.refl G)).2
  refine ⟨by decide, by decide, ?_⟩
  refine loop_inv (fun _ τ G' => (∃ x8, τ = [some (.scr (ns.map .int)), x1, x2, some (.ref a), some (.tup [.int i, .int j]), some w, some d, some y, x8, none, none, none, none]) ∧ Ext G G') _ 0 _ _ ⟨⟨_, rfl⟩, .refl _⟩ (fun _ _ _ _ _ _ => trivial) ?_ ?_
  · rintro m z τ G' hz ⟨⟨x8, rfl⟩, e⟩ N hN
    refine ⟨y, d, v, rfl, hy.ext e.l, hs, hk.ext e.l, fun G1 e1 => ?_⟩
    rw [hb]
    refine .inl ⟨_, _, .str _, .str _, dep_str, iteF ?_⟩
    refine ⟨y, v, rfl, hy.ext (e.trans e1).l, hs, fun G2 z2 e2 hz2 => ?_⟩
    refine vw_eqS hz2 (hw.ext ((e.trans e1).trans e2).l) (iteF ?_)
    refine ⟨.ref a, _, .inr (xss.map .inr), rfl, ((g.ext ((e.trans e1).trans e2).l).vw (gOk_knt fi.gr)), hsx, dock_knt, fun G3 e3 => ?_⟩
    rw [fi.made]
    refine .inl ⟨_, _, .str _, .str _, dep_str, iteF ?_⟩
    exact hN _ _ ⟨⟨_, rfl⟩, ((e.trans e1).trans e2).trans e3⟩
  · rintro τ G' ⟨⟨x8, rfl⟩, e⟩
    exact ⟨ns, 4, rfl, law_5 q G' (cellAt ns 4) _ _ _ _ _ _ _ _ _⟩
theorem hd_law (A : Adr) (ws : List W) (G : WH) (Q : VK2) (E : XK2) (h : sp_law A ws G Q E) : rd_law A (ends Q) (start2 ["_law_script", "_law_many", "_law_wide", "_law_rows_here", "_law_dock", "_law_wrong", "_law_spot", "_law_handed", "_law_k", "_law_cell", "_law_size", "_law_great", "_law_due"] ws) G := by
  obtain ⟨ns, rfl, hl, q⟩ := h
  refine ⟨ns, 0, rfl, (by show (0 : Int) < 6; decide), ns, 0, rfl, ⟨by decide, by decide⟩, (by show (0 : Int) < 6; decide), ?_⟩
  obtain ⟨m, hm, hm6⟩ := nat_mod (c := cellAt ns 0) (n := 6) (by decide)
  obtain ⟨n, hn, hn6⟩ := nat_mod (c := cellAt ns 0 / 6) (n := 6) (by decide)
  have hm' : (1 : Int) + cellAt ns 0 % 6 = ((m + 1 : Nat) : Int) := by have : cellAt ns 0 % 6 = m := hm; omega
  have hn' : (1 : Int) + cellAt ns 0 / 6 % 6 = ((n + 1 : Nat) : Int) := by have : cellAt ns 0 / 6 % 6 = n := hn; omega
  show rd_law_13 A (ends Q) [some (.scr (ns.map .int)), some (.int (1 + cellAt ns 0 % 6)), some (.int (1 + cellAt ns 0 / 6 % 6)), none, none, none, none, none, none, none, none, none, none] G
  rw [hm', hn']
  refine ⟨ns, 1, rfl, cellAt ns 1, m + 1, n + 1, rfl, by omega, by omega, fun G1 a bs xss e1 g hlen hrow hgr => ?_⟩
  refine ⟨ns, 2, rfl, by omega, ns, 2, rfl, ⟨by decide, by decide⟩, by omega, (by show 2 ≤ sizeLine; decide), ?_⟩
  obtain ⟨i, hi, hi6⟩ := nat_mod (c := cellAt ns 2) (n := m + 1) (by omega)
  obtain ⟨j, hj, hj6⟩ := nat_mod (c := cellAt ns 2 / 6) (n := n + 1) (by omega)
  show rd_law_11 A (ends Q) [some (.scr (ns.map .int)), some (.int ((m + 1 : Nat) : Int)), some (.int ((n + 1 : Nat) : Int)), some (.ref a), some (.tup [.int (cellAt ns 2 % ((m + 1 : Nat) : Int)), .int (cellAt ns 2 / 6 % ((n + 1 : Nat) : Int))]), none, none, none, none, none, none, none, none] G1
  rw [hi, hj]
  refine ⟨ns, 2, rfl, ⟨by decide, by decide⟩, ⟨by decide, by decide, by decide⟩, pow10, (by show 2 ≤ sizeLine; decide), ?_⟩
  have hil : i < xss.length := by omega
  have hx : xss[i]? = some xss[i] := List.getElem?_eq_getElem hil
  obtain ⟨b, hb, hGb⟩ := g.row hx
  have hat : atI (bs.map W.ref) (i : Int) = some (.ref b) := atI_nat (by rw [List.getElem?_map, hb]; rfl)
  have hxn := hrow _ (List.getElem_mem hil)
  have hix : ixN xss[i].length (j : Int) = some j := by
    unfold ixN; rw [if_pos (by omega), if_pos (by omega)]; rfl
  refine ⟨.int i, rfl, ix2_l g.ha hat ⟨.int j, rfl, set2_l hGb hix ?_⟩⟩
  have hc1 : (1 : Int) ≤ 1 + cellAt ns 2 / 36 % (10 ^ (30 : Int).toNat) := by
    have := Int.emod_nonneg (cellAt ns 2 / 36) (Int.ne_of_gt (pow10 (n := (30 : Int).toNat)))
    omega
  have g2 := g.set (ys := xss[i].set j (.tup [.int (1 + cellAt ns 2 / 36 % (10 ^ (30 : Int).toNat)), .int 0])) hb
  have fi := fine_set (m := m + 1) (n := n + 1) (by omega) (by omega) (by omega) hlen hrow hgr hi6 hj6 hx hc1
  refine ⟨ns, 3, rfl, a, bs, _, n + 1, i, j, cellAt ns 3, rfl, g2, fi, fun G3 w d v e3 hv hs hk h1 => ⟨rfl, rfl, ?_⟩⟩
  refine ⟨w, v, rfl, hv, hs, fun G4 y e4 hy => ?_⟩
  exact law_8 q ns G4 a bs _ (n + 1) i j (g2.ext (e3.trans e4).l) fi w d y v (hv.ext e4.l) hy hs (hk.ext e4.l) h1 _ _
theorem law_start : ∀ (K : PySem.W.Frag) (H : Hp) (a : Addr) (ns : List Int), ns.length ≤ 63 → Only H → SqL K H a (ns.map V.int) → lowSp K sp_law0 [.ref a] H (fun v _ => v = .bl true) fun _ _ _ => False := fun K H a ns hl hO hS => by
  have hf : FrzL K H a (ns.map V.int) := by
    rcases hS with (h | ⟨o, h⟩) | h
    · rcases hO a with z | ⟨o, xs, z⟩
      · rw [z] at h; cases h
      · rw [z] at h; cases h
    · exact .inl ⟨o, h⟩
    · exact .inr h
  have hr : ∀ l : List Int, Reps K H (l.map W.int) (l.map V.int) := fun l => by
    induction l with
    | nil => exact .nil
    | cons i l ih => exact .cons (.int i) ih
  exact ⟨[.scr (ns.map .int)], fun _ => none, fun w _ => w = .bl true, noX, .cons (.scr hf (hr ns)) .nil, (fun _ _ e => by cases e), ⟨ns, rfl, hl, fun _ => rfl⟩, (fun v H' w G' _ _ r e => by subst e; cases r; rfl), fun _ _ _ _ _ _ _ _ h => h⟩
end My
set_option maxHeartbeats 4000000
namespace My
open PySem PySem.Spec L2 L3
open PyProof.Rows hiding St
def top (i : Nat) : Stmt := PySem.Challenge.pw_dustwalk_k03_floors_refused.main.body.getD i (.Pass ⟨0, 0, 0, 0⟩)
abbrev s_law_cell_at : Stmt := top 22
abbrev s_law_kept : Stmt := top 27
abbrev s_law_no_ground : Stmt := top 25
abbrev s_law_rows : Stmt := top 24
abbrev s_is_whole : Stmt := top 2
abbrev s_is_whole_pair : Stmt := top 3
abbrev s_check_dock : Stmt := top 17
abbrev s_is_ground : Stmt := top 4
abbrev s_check_grounds : Stmt := top 16
abbrev s_check_rows : Stmt := top 15
abbrev s_check_floor : Stmt := top 18
abbrev s_open_grounds : Stmt := top 19
abbrev s_Floor_init : Stmt := inClass (top 20) 0
abbrev s_law_said : Stmt := top 23
abbrev s_law_spoilt : Stmt := top 26
abbrev s_law : Stmt := top 28
structure Txt (K : PySem.W.Frag) (w : World) (mg : Str → Option Value) (A : Adr) : Prop where
  F_law_cell_at : Fun K "_law_cell_at" "_law_cell_at" s_law_cell_at A.f_law_cell_at A.d_law_cell_at
  b_law_cell_at : Binds K A.d_law_cell_at ["_law_script", "_law_k"] []
  k_law_cell_at : PySem.W.keepIn K (.ref A.f_law_cell_at) = true
  m_law_cell_at : mg "_law_cell_at" = some (.ref A.f_law_cell_at)
  F_law_kept : Fun K "_law_kept" "_law_kept" s_law_kept A.f_law_kept A.d_law_kept
  b_law_kept : Binds K A.d_law_kept ["_law_rows_here"] []
  k_law_kept : PySem.W.keepIn K (.ref A.f_law_kept) = true
  m_law_kept : mg "_law_kept" = some (.ref A.f_law_kept)
  F_law_no_ground : Fun K "_law_no_ground" "_law_no_ground" s_law_no_ground A.f_law_no_ground A.d_law_no_ground
  b_law_no_ground : Binds K A.d_law_no_ground ["_law_cell"] []
  k_law_no_ground : PySem.W.keepIn K (.ref A.f_law_no_ground) = true
  m_law_no_ground : mg "_law_no_ground" = some (.ref A.f_law_no_ground)
  F_law_rows : Fun K "_law_rows" "_law_rows" s_law_rows A.f_law_rows A.d_law_rows
  b_law_rows : Binds K A.d_law_rows ["_law_cell", "_law_many", "_law_wide"] []
  k_law_rows : PySem.W.keepIn K (.ref A.f_law_rows) = true
  m_law_rows : mg "_law_rows" = some (.ref A.f_law_rows)
  F_is_whole : Fun K "is_whole" "is_whole" s_is_whole A.f_is_whole A.d_is_whole
  b_is_whole : Binds K A.d_is_whole ["thing"] []
  k_is_whole : PySem.W.keepIn K (.ref A.f_is_whole) = true
  m_is_whole : mg "is_whole" = some (.ref A.f_is_whole)
  F_is_whole_pair : Fun K "is_whole_pair" "is_whole_pair" s_is_whole_pair A.f_is_whole_pair A.d_is_whole_pair
  b_is_whole_pair : Binds K A.d_is_whole_pair ["thing"] []
  k_is_whole_pair : PySem.W.keepIn K (.ref A.f_is_whole_pair) = true
  m_is_whole_pair : mg "is_whole_pair" = some (.ref A.f_is_whole_pair)
  F_check_dock : Fun K "check_dock" "check_dock" s_check_dock A.f_check_dock A.d_check_dock
  b_check_dock : Binds K A.d_check_dock ["rows", "dock"] []
  k_check_dock : PySem.W.keepIn K (.ref A.f_check_dock) = true
  m_check_dock : mg "check_dock" = some (.ref A.f_check_dock)
  F_is_ground : Fun K "is_ground" "is_ground" s_is_ground A.f_is_ground A.d_is_ground
  b_is_ground : Binds K A.d_is_ground ["thing"] []
  k_is_ground : PySem.W.keepIn K (.ref A.f_is_ground) = true
  m_is_ground : mg "is_ground" = some (.ref A.f_is_ground)
  F_check_grounds : Fun K "check_grounds" "check_grounds" s_check_grounds A.f_check_grounds A.d_check_grounds
  b_check_grounds : Binds K A.d_check_grounds ["rows"] []
  k_check_grounds : PySem.W.keepIn K (.ref A.f_check_grounds) = true
  m_check_grounds : mg "check_grounds" = some (.ref A.f_check_grounds)
  F_check_rows : Fun K "check_rows" "check_rows" s_check_rows A.f_check_rows A.d_check_rows
  b_check_rows : Binds K A.d_check_rows ["rows"] []
  k_check_rows : PySem.W.keepIn K (.ref A.f_check_rows) = true
  m_check_rows : mg "check_rows" = some (.ref A.f_check_rows)
  F_check_floor : Fun K "check_floor" "check_floor" s_check_floor A.f_check_floor A.d_check_floor
  b_check_floor : Binds K A.d_check_floor ["rows", "dock"] []
  k_check_floor : PySem.W.keepIn K (.ref A.f_check_floor) = true
  m_check_floor : mg "check_floor" = some (.ref A.f_check_floor)
  F_open_grounds : Fun K "open_grounds" "open_grounds" s_open_grounds A.f_open_grounds A.d_open_grounds
  b_open_grounds : Binds K A.d_open_grounds ["rows", "dock"] []
  k_open_grounds : PySem.W.keepIn K (.ref A.f_open_grounds) = true
  m_open_grounds : mg "open_grounds" = some (.ref A.f_open_grounds)
  F_Floor_init : Fun K "__init__" "Floor.__init__" s_Floor_init A.f_Floor_init A.d_Floor_init
  b_Floor_init : Binds K A.d_Floor_init ["self", "rows", "dock"] []
  k_Floor_init : PySem.W.keepIn K (.ref A.f_Floor_init) = true
  mk_Floor : Mk K A.c_Floor A.f_Floor_init
  F_law_said : Fun K "_law_said" "_law_said" s_law_said A.f_law_said A.d_law_said
  b_law_said : Binds K A.d_law_said ["_law_rows_here", "_law_dock"] []
  k_law_said : PySem.W.keepIn K (.ref A.f_law_said) = true
  m_law_said : mg "_law_said" = some (.ref A.f_law_said)
  F_law_spoilt : Fun K "_law_spoilt" "_law_spoilt" s_law_spoilt A.f_law_spoilt A.d_law_spoilt
  b_law_spoilt : Binds K A.d_law_spoilt ["_law_rows_here", "_law_dock", "_law_cell"] []
  k_law_spoilt : PySem.W.keepIn K (.ref A.f_law_spoilt) = true
  m_law_spoilt : mg "_law_spoilt" = some (.ref A.f_law_spoilt)
  F_law : Fun K "law" "law" s_law A.f_law A.d_law
  b_law : Binds K A.d_law ["_law_script"] []
  k_law : PySem.W.keepIn K (.ref A.f_law) = true
  m_law : mg "law" = some (.ref A.f_law)
  cl_Floor : Cls K A.c_Floor
  mc_Floor : mg "Floor" = some (.ref A.c_Floor)
  n_Floor_dock_place : NoAttr K A.c_Floor "dock_place"
  n_Floor_grounds : NoAttr K A.c_Floor "grounds"
  n_Floor_row_lists : NoAttr K A.c_Floor "row_lists"
  mc_DustError : mg "DustError" = some (.ref A.c_DustError)
  xc_DustError : XCls K A.c_DustError
  mc_BadFloor : mg "BadFloor" = some (.ref A.c_BadFloor)
  xc_BadFloor : XCls K A.c_BadFloor
  mc_TooMany : mg "TooMany" = some (.ref A.c_TooMany)
  xc_TooMany : XCls K A.c_TooMany
  mc_Clash : mg "Clash" = some (.ref A.c_Clash)
  mc_NoDock : mg "NoDock" = some (.ref A.c_NoDock)
  xc_NoDock : XCls K A.c_NoDock
  mc_NoRow : mg "NoRow" = some (.ref A.c_NoRow)
  xc_NoRow : XCls K A.c_NoRow
  mc_NoText : mg "NoText" = some (.ref A.c_NoText)
  xc_NoText : XCls K A.c_NoText
  ty_BadFloor : TyX K A.c_BadFloor
  kv_BadFloor : PySem.W.kitOne K (.ref A.c_BadFloor) (.type "ValueError") = some true
  ki_BadFloor_DustError : PySem.W.kitOne K (.ref A.c_BadFloor) (.ref A.c_DustError) = some true
  mr_BadFloor_DustError : PySem.W.mroIn K A.c_BadFloor (.ref A.c_DustError) = some true
  ki_BadFloor_BadFloor : PySem.W.kitOne K (.ref A.c_BadFloor) (.ref A.c_BadFloor) = some true
  mr_BadFloor_BadFloor : PySem.W.mroIn K A.c_BadFloor (.ref A.c_BadFloor) = some true
  ki_BadFloor_TooMany : PySem.W.kitOne K (.ref A.c_BadFloor) (.ref A.c_TooMany) = some false
  mr_BadFloor_TooMany : PySem.W.mroIn K A.c_BadFloor (.ref A.c_TooMany) = some false
  ki_BadFloor_Clash : PySem.W.kitOne K (.ref A.c_BadFloor) (.ref A.c_Clash) = some false
  mr_BadFloor_Clash : PySem.W.mroIn K A.c_BadFloor (.ref A.c_Clash) = some false
  ki_BadFloor_NoDock : PySem.W.kitOne K (.ref A.c_BadFloor) (.ref A.c_NoDock) = some false
  mr_BadFloor_NoDock : PySem.W.mroIn K A.c_BadFloor (.ref A.c_NoDock) = some false
  ki_BadFloor_NoRow : PySem.W.kitOne K (.ref A.c_BadFloor) (.ref A.c_NoRow) = some false
  mr_BadFloor_NoRow : PySem.W.mroIn K A.c_BadFloor (.ref A.c_NoRow) = some false
  ki_BadFloor_NoText : PySem.W.kitOne K (.ref A.c_BadFloor) (.ref A.c_NoText) = some false
  mr_BadFloor_NoText : PySem.W.mroIn K A.c_BadFloor (.ref A.c_NoText) = some false
  ty_TooMany : TyX K A.c_TooMany
  kv_TooMany : PySem.W.kitOne K (.ref A.c_TooMany) (.type "ValueError") = some true
  ki_TooMany_DustError : PySem.W.kitOne K (.ref A.c_TooMany) (.ref A.c_DustError) = some true
  mr_TooMany_DustError : PySem.W.mroIn K A.c_TooMany (.ref A.c_DustError) = some true
  ki_TooMany_BadFloor : PySem.W.kitOne K (.ref A.c_TooMany) (.ref A.c_BadFloor) = some false
  mr_TooMany_BadFloor : PySem.W.mroIn K A.c_TooMany (.ref A.c_BadFloor) = some false
  ki_TooMany_TooMany : PySem.W.kitOne K (.ref A.c_TooMany) (.ref A.c_TooMany) = some true
  mr_TooMany_TooMany : PySem.W.mroIn K A.c_TooMany (.ref A.c_TooMany) = some true
  ki_TooMany_Clash : PySem.W.kitOne K (.ref A.c_TooMany) (.ref A.c_Clash) = some false
  mr_TooMany_Clash : PySem.W.mroIn K A.c_TooMany (.ref A.c_Clash) = some false
  ki_TooMany_NoDock : PySem.W.kitOne K (.ref A.c_TooMany) (.ref A.c_NoDock) = some false
  mr_TooMany_NoDock : PySem.W.mroIn K A.c_TooMany (.ref A.c_NoDock) = some false
  ki_TooMany_NoRow : PySem.W.kitOne K (.ref A.c_TooMany) (.ref A.c_NoRow) = some false
  mr_TooMany_NoRow : PySem.W.mroIn K A.c_TooMany (.ref A.c_NoRow) = some false
  ki_TooMany_NoText : PySem.W.kitOne K (.ref A.c_TooMany) (.ref A.c_NoText) = some false
  mr_TooMany_NoText : PySem.W.mroIn K A.c_TooMany (.ref A.c_NoText) = some false
  z_ValueError : mg "ValueError" = none
  z_bool : mg "bool" = none
  z_enumerate : mg "enumerate" = none
  z_int : mg "int" = none
  z_isinstance : mg "isinstance" = none
  z_len : mg "len" = none
  z_list : mg "list" = none
  z_range : mg "range" = none
  z_tuple : mg "tuple" = none
  m_MOST_GROUNDS : mg "MOST_GROUNDS" = some (.int 2500 A.t_MOST_GROUNDS)
section
variable {P : Program} {w : World} {K : PySem.W.Frag} {mg : Str → Option Value} {base : Heap} {A : Adr}
theorem sc_law_cell_at : FnScope ["_law_script", "_law_k"] ["_law_script", "_law_k"] (defScope s_law_cell_at) := ⟨rfl, rfl, rfl, by decide +kernel, rfl, by decide +kernel, by decide +kernel⟩
theorem ok_law_cell_at (T : Txt K w mg A) : FnOk P w K mg base CX0 1 A.f_law_cell_at A.d_law_cell_at ["_law_script", "_law_k"] (lowSp K (sp_law_cell_at A)) := by
  refine fun_ok2 T.F_law_cell_at sc_law_cell_at len_law_cell_at fun cdv A' outer s H E hr ws G Q E2 h => ⟨_, ?_, hd_law_cell_at A ws G Q E2 h⟩
  have nd := sc_law_cell_at.nd
  have hu1 := hu_of hr
  have hu40 : (A'.deeper (envOfC "_law_cell_at" (defScope s_law_cell_at) s.heap.objs.size A.f_law_cell_at cdv)).units + 40 < cLine := by have := hr.units; omega
  exact (ss_cons (s_if (t_cmp o_lt (e_var 1) (e_b_len rfl T.z_len (a_cons (e_var 0) a_nil)) (nomark _)) (ss_one (s_ret (e_ix hu1 (e_var 0) (e_var 1)))) ss_nil) (ss_one (s_ret e_int)))
theorem sc_law_kept : FnScope ["_law_rows_here"] ["_law_rows_here"] (defScope s_law_kept) := ⟨rfl, rfl, rfl, by decide +kernel, rfl, by decide +kernel, by decide +kernel⟩
theorem ok_law_kept (T : Txt K w mg A) : FnOk P w K mg base CX0 1 A.f_law_kept A.d_law_kept ["_law_rows_here"] (lowSp K (sp_law_kept A)) := by
  refine fun_ok2 T.F_law_kept sc_law_kept len_law_kept fun cdv A' outer s H E hr ws G Q E2 h => ⟨_, ?_, hd_law_kept A ws G Q E2 h⟩
  have nd := sc_law_kept.nd
  have hu1 := hu_of hr
  have hu40 : (A'.deeper (envOfC "_law_kept" (defScope s_law_kept) s.heap.objs.size A.f_law_kept cdv)).units + 40 < cLine := by have := hr.units; omega
  exact (ss_cons (s_if (t_not (t_val (e_isi (by rfl) rfl T.z_isinstance rfl T.z_list (e_var 0)))) (ss_one (s_ret (e_var 0))) ss_nil) (ss_one (s_ret (e_comp rfl (i_seq (e_var 0)) (compOk_of (osc := defScope s_law_kept) (N := ["_law_rows_here"]) (cap := [none]) (N' := ["_law_row"]) (by decide +kernel) rfl rfl) (fun cl C s' H' fp => ⟨(g_name (i := 0) (show (["_law_row"] : List Str).Nodup by decide +kernel) rfl (by first | exact Or.inl rfl | exact Or.inr rfl)), pts2_nil, (e_ifExp (t_val (e_isi (by rfl) rfl T.z_isinstance rfl T.z_list (e_var 0))) (e_b_list rfl T.z_list (a_cons (e_var 0) a_nil)) (e_var 0))⟩)))))
theorem sc_law_no_ground : FnScope ["_law_cell", "_law_some"] ["_law_cell"] (defScope s_law_no_ground) := ⟨rfl, rfl, rfl, by decide +kernel, rfl, by decide +kernel, by decide +kernel⟩
theorem ok_law_no_ground (T : Txt K w mg A) : FnOk P w K mg base CX0 1 A.f_law_no_ground A.d_law_no_ground ["_law_cell"] (lowSp K (sp_law_no_ground A)) := by
  refine fun_ok2 T.F_law_no_ground sc_law_no_ground len_law_no_ground fun cdv A' outer s H E hr ws G Q E2 h => ⟨_, ?_, hd_law_no_ground A ws G Q E2 h⟩
  have nd := sc_law_no_ground.nd
  have hu1 := hu_of hr
  have hu40 : (A'.deeper (envOfC "_law_no_ground" (defScope s_law_no_ground) s.heap.objs.size A.f_law_no_ground cdv)).units + 40 < cLine := by have := hr.units; omega
  exact (ss_cons (s_set (i := 1) nd rfl (by first | exact Or.inl rfl | exact Or.inr rfl) (e_lst (a_cons (e_lst (a_cons e_int (a_cons e_int a_nil))) (a_cons (e_tup (a_cons e_int a_nil)) (a_cons (e_tup (a_cons e_int (a_cons e_int (a_cons e_int a_nil)))) (a_cons (e_tup (a_cons e_int (a_cons e_int a_nil))) (a_cons (e_tup (a_cons (e_op o_sub (e_op o_sub e_int e_int) (e_op o_mod (e_var 0) (e_op o_pow e_int e_int))) (a_cons e_int a_nil))) a_nil))))))) (ss_cons (s_set (i := 1) nd rfl (by first | exact Or.inl rfl | exact Or.inr rfl) (e_op o_add (e_var 1) (e_lst (a_cons (e_tup (a_cons e_bl (a_cons e_int a_nil))) (a_cons (e_tup (a_cons e_int (a_cons e_bl a_nil))) (a_cons (e_tup (a_cons e_non (a_cons e_int a_nil))) (a_cons (e_tup (a_cons e_int (a_cons e_non a_nil))) a_nil))))))) (ss_cons (s_set (i := 1) nd rfl (by first | exact Or.inl rfl | exact Or.inr rfl) (e_op o_add (e_var 1) (e_lst (a_cons e_str (a_cons e_str (a_cons e_int (a_cons e_int (a_cons (e_tup a_nil) (a_cons (e_tup (a_cons e_str (a_cons e_int a_nil))) (a_cons (e_tup (a_cons e_int (a_cons e_str a_nil))) (a_cons (e_tup (a_cons e_int (a_cons (e_tup (a_cons e_int a_nil)) a_nil))) (a_cons e_dnewT (a_cons e_bl a_nil))))))))))))) (ss_one (s_ret (e_ix hu1 (e_var 1) (e_op o_mod (e_var 0) (e_b_len rfl T.z_len (a_cons (e_var 1) a_nil)))))))))
theorem sc_law_rows : FnScope ["_law_cell", "_law_many", "_law_wide", "_law_number", "_law_rows_here", "_law_r", "_law_row", "_law_c"] ["_law_cell", "_law_many", "_law_wide"] (defScope s_law_rows) := ⟨rfl, rfl, rfl, by decide +kernel, rfl, by decide +kernel, by decide +kernel⟩
theorem ok_law_rows (T : Txt K w mg A) : FnOk P w K mg base CX0 1 A.f_law_rows A.d_law_rows ["_law_cell", "_law_many", "_law_wide"] (lowSp K (sp_law_rows A)) := by
  refine fun_ok2 T.F_law_rows sc_law_rows len_law_rows fun cdv A' outer s H E hr ws G Q E2 h => ⟨_, ?_, hd_law_rows A ws G Q E2 h⟩
  have nd := sc_law_rows.nd
  have hu1 := hu_of hr
  have hu40 : (A'.deeper (envOfC "_law_rows" (defScope s_law_rows) s.heap.objs.size A.f_law_rows cdv)).units + 40 < cLine := by have := hr.units; omega
  exact (ss_cons (s_set (i := 3) nd rfl (by first | exact Or.inl rfl | exact Or.inr rfl) (e_op o_add (e_op o_mod (e_var 0) e_int) e_int)) (ss_cons (s_set (i := 4) nd rfl (by first | exact Or.inl rfl | exact Or.inr rfl) (e_lst a_nil)) (ss_cons (s_forR1 PassesOwn.never rfl rfl T.z_range (a_cons (e_var 1) a_nil) (g_name (i := 5) nd rfl (by first | exact Or.inl rfl | exact Or.inr rfl)) (ss_cons (s_set (i := 6) nd rfl (by first | exact Or.inl rfl | exact Or.inr rfl) (e_lst a_nil)) (ss_cons (s_forR1 PassesOwn.never rfl rfl T.z_range (a_cons (e_var 2) a_nil) (g_name (i := 7) nd rfl (by first | exact Or.inl rfl | exact Or.inr rfl)) (ss_cons (s_set (i := 3) nd rfl (by first | exact Or.inl rfl | exact Or.inr rfl) (e_op o_mod (e_op o_add (e_op o_add (e_op o_mul (e_var 3) (e_var 3)) (e_op o_mul e_int (e_var 3))) (e_var 7)) e_int)) (ss_one (s_expr (e_m_append (e_var 6) (a_cons (e_ix hu1 (e_lst (a_cons e_non (a_cons (e_tup (a_cons (e_op o_add e_int (e_op o_mod (e_op o_fdiv (e_var 3) e_int) e_int)) (a_cons (e_op o_sub (e_op o_mod (e_op o_fdiv (e_var 3) e_int) e_int) e_int) a_nil))) (a_cons (e_tup (a_cons e_int (a_cons e_int a_nil))) a_nil)))) (e_op o_mod (e_var 3) e_int)) a_nil)))))) (ss_one (s_expr (e_m_append (e_var 4) (a_cons (e_var 6) a_nil))))))) (ss_one (s_ret (e_var 4))))))
theorem sc_is_whole : FnScope ["thing"] ["thing"] (defScope s_is_whole) := ⟨rfl, rfl, rfl, by decide +kernel, rfl, by decide +kernel, by decide +kernel⟩
theorem ok_is_whole (T : Txt K w mg A) : FnOk P w K mg base CX0 1 A.f_is_whole A.d_is_whole ["thing"] (lowSp K (sp_is_whole A)) := by
  refine fun_ok2 T.F_is_whole sc_is_whole len_is_whole fun cdv A' outer s H E hr ws G Q E2 h => ⟨_, ?_, hd_is_whole A ws G Q E2 h⟩
  have nd := sc_is_whole.nd
  have hu1 := hu_of hr
  have hu40 : (A'.deeper (envOfC "is_whole" (defScope s_is_whole) s.heap.objs.size A.f_is_whole cdv)).units + 40 < cLine := by have := hr.units; omega
  exact (ss_one (s_ret (e_and (e_isi (by rfl) rfl T.z_isinstance rfl T.z_int (e_var 0)) (e_one (e_not (e_isi (by rfl) rfl T.z_isinstance rfl T.z_bool (e_var 0)))))))
theorem sc_is_whole_pair : FnScope ["thing"] ["thing"] (defScope s_is_whole_pair) := ⟨rfl, rfl, rfl, by decide +kernel, rfl, by decide +kernel, by decide +kernel⟩
theorem ok_is_whole_pair (T : Txt K w mg A) (G_is_whole : FnOk P w K mg base CX0 1 A.f_is_whole A.d_is_whole ["thing"] (lowSp K (sp_is_whole A))) : FnOk P w K mg base CX0 2 A.f_is_whole_pair A.d_is_whole_pair ["thing"] (lowSp K (sp_is_whole_pair A)) := by
  refine fun_ok2 T.F_is_whole_pair sc_is_whole_pair len_is_whole_pair fun cdv A' outer s H E hr ws G Q E2 h => ⟨_, ?_, hd_is_whole_pair A ws G Q E2 h⟩
  have nd := sc_is_whole_pair.nd
  have hu1 := hu_of hr
  have hu40 : (A'.deeper (envOfC "is_whole_pair" (defScope s_is_whole_pair) s.heap.objs.size A.f_is_whole_pair cdv)).units + 40 < cLine := by have := hr.units; omega
  exact (ss_one (s_ret (e_and (e_isi (by rfl) rfl T.z_isinstance rfl T.z_tuple (e_var 0)) (e_and (e_cmp (o_eq hu40) (e_b_len rfl T.z_len (a_cons (e_var 0) a_nil)) e_int (nomark _)) (e_and (e_call G_is_whole (hr.mono (by decide)) rfl T.m_is_whole T.k_is_whole T.b_is_whole (a_cons (e_ix hu1 (e_var 0) e_int) a_nil)) (e_one (e_call G_is_whole (hr.mono (by decide)) rfl T.m_is_whole T.k_is_whole T.b_is_whole (a_cons (e_ix hu1 (e_var 0) e_int) a_nil))))))))
theorem sc_check_dock : FnScope ["rows", "dock"] ["rows", "dock"] (defScope s_check_dock) := ⟨rfl, rfl, rfl, by decide +kernel, rfl, by decide +kernel, by decide +kernel⟩
theorem ok_check_dock (T : Txt K w mg A) (G_is_whole_pair : FnOk P w K mg base CX0 2 A.f_is_whole_pair A.d_is_whole_pair ["thing"] (lowSp K (sp_is_whole_pair A))) : FnOk P w K mg base (CXo P w K) 3 A.f_check_dock A.d_check_dock ["rows", "dock"] (lowSp K (sp_check_dock A)) := by
  refine fun_okX T.F_check_dock sc_check_dock len_check_dock fun cdv A' outer s H E hr ws G Q E2 hx h => ⟨_, ?_, hd_check_dock A ws G Q E2 h⟩
  have hE := xle_def (X := cxOf (CXo P w K) P w K mg base ["rows", "dock"] "check_dock" (defScope s_check_dock) A.f_check_dock cdv A' outer s H E) hx
  have nd := sc_check_dock.nd
  have hu1 := hu_of hr
  have hu40 : (A'.deeper (envOfC "check_dock" (defScope s_check_dock) s.heap.objs.size A.f_check_dock cdv)).units + 40 < cLine := by have := hr.units; omega
  exact (ss_cons (s_if (t_not (t_val (e_call G_is_whole_pair (hr.mono (by decide)) rfl T.m_is_whole_pair T.k_is_whole_pair T.b_is_whole_pair (a_cons (e_var 1) a_nil)))) (ss_one (s_raise hE rfl T.mc_BadFloor T.xc_BadFloor rfl (a_cons e_str a_nil))) ss_nil) (ss_cons (s_if (PW2.pt (t_or (t_cmp o_lt (e_ix hu1 (e_var 1) e_int) e_int (nomark _)) (t_or (t_cmp o_ge (e_ix hu1 (e_var 1) e_int) (e_b_len rfl T.z_len (a_cons (e_var 0) a_nil)) (nomark _)) (t_or (t_cmp o_lt (e_ix hu1 (e_var 1) e_int) e_int (nomark _)) (t_or1 (t_cmp o_ge (e_ix hu1 (e_var 1) e_int) (e_b_len rfl T.z_len (a_cons (e_ix hu1 (e_var 0) e_int) a_nil)) (nomark _))))))) (ss_one (s_raise hE rfl T.mc_BadFloor T.xc_BadFloor rfl (a_cons e_str a_nil))) ss_nil) (ss_one (s_if (t_cmp o_is (e_ix hu1 (e_ix hu1 (e_var 0) (e_ix hu1 (e_var 1) e_int)) (e_ix hu1 (e_var 1) e_int)) e_non (nomark _)) (ss_one (s_raise hE rfl T.mc_BadFloor T.xc_BadFloor rfl (a_cons e_str a_nil))) ss_nil))))
theorem sc_is_ground : FnScope ["thing"] ["thing"] (defScope s_is_ground) := ⟨rfl, rfl, rfl, by decide +kernel, rfl, by decide +kernel, by decide +kernel⟩
theorem ok_is_ground (T : Txt K w mg A) (G_is_whole_pair : FnOk P w K mg base CX0 2 A.f_is_whole_pair A.d_is_whole_pair ["thing"] (lowSp K (sp_is_whole_pair A))) : FnOk P w K mg base CX0 3 A.f_is_ground A.d_is_ground ["thing"] (lowSp K (sp_is_ground A)) := by
  refine fun_ok2 T.F_is_ground sc_is_ground len_is_ground fun cdv A' outer s H E hr ws G Q E2 h => ⟨_, ?_, hd_is_ground A ws G Q E2 h⟩
  have nd := sc_is_ground.nd
  have hu1 := hu_of hr
  have hu40 : (A'.deeper (envOfC "is_ground" (defScope s_is_ground) s.heap.objs.size A.f_is_ground cdv)).units + 40 < cLine := by have := hr.units; omega
  exact (ss_one (s_ret (e_or (e_cmp o_is (e_var 0) e_non (nomark _)) (e_one (e_and (e_call G_is_whole_pair (hr.mono (by decide)) rfl T.m_is_whole_pair T.k_is_whole_pair T.b_is_whole_pair (a_cons (e_var 0) a_nil)) (e_one (e_cmp o_ge (e_ix hu1 (e_var 0) e_int) e_int (nomark _))))))))
theorem sc_check_grounds : FnScope ["rows", "row", "thing"] ["rows"] (defScope s_check_grounds) := ⟨rfl, rfl, rfl, by decide +kernel, rfl, by decide +kernel, by decide +kernel⟩
theorem ok_check_grounds (T : Txt K w mg A) (G_is_ground : FnOk P w K mg base CX0 3 A.f_is_ground A.d_is_ground ["thing"] (lowSp K (sp_is_ground A))) : FnOk P w K mg base (CXo P w K) 4 A.f_check_grounds A.d_check_grounds ["rows"] (lowSp K (sp_check_grounds A)) := by
  refine fun_okX T.F_check_grounds sc_check_grounds len_check_grounds fun cdv A' outer s H E hr ws G Q E2 hx h => ⟨_, ?_, hd_check_grounds A ws G Q E2 h⟩
  have hE := xle_def (X := cxOf (CXo P w K) P w K mg base ["rows", "row", "thing"] "check_grounds" (defScope s_check_grounds) A.f_check_grounds cdv A' outer s H E) hx
  have nd := sc_check_grounds.nd
  have hu1 := hu_of hr
  have hu40 : (A'.deeper (envOfC "check_grounds" (defScope s_check_grounds) s.heap.objs.size A.f_check_grounds cdv)).units + 40 < cLine := by have := hr.units; omega
  exact (ss_one (s_for (pass_own rfl rfl) rfl (e_var 0) (g_name (i := 1) nd rfl (by first | exact Or.inl rfl | exact Or.inr rfl)) (ss_one (s_for (pass_own rfl rfl) rfl (e_var 1) (g_name (i := 2) nd rfl (by first | exact Or.inl rfl | exact Or.inr rfl)) (ss_one (s_if (t_not (t_val (e_call G_is_ground (hr.mono (by decide)) rfl T.m_is_ground T.k_is_ground T.b_is_ground (a_cons (e_var 2) a_nil)))) (ss_one (s_raise hE rfl T.mc_BadFloor T.xc_BadFloor rfl (a_cons e_str a_nil))) ss_nil))))))
theorem sc_check_rows : FnScope ["rows", "row"] ["rows"] (defScope s_check_rows) := ⟨rfl, rfl, rfl, by decide +kernel, rfl, by decide +kernel, by decide +kernel⟩
theorem ok_check_rows (T : Txt K w mg A) : FnOk P w K mg base (CXo P w K) 1 A.f_check_rows A.d_check_rows ["rows"] (lowSp K (sp_check_rows A)) := by
  refine fun_okX T.F_check_rows sc_check_rows len_check_rows fun cdv A' outer s H E hr ws G Q E2 hx h => ⟨_, ?_, hd_check_rows A ws G Q E2 h⟩
  have hE := xle_def (X := cxOf (CXo P w K) P w K mg base ["rows", "row"] "check_rows" (defScope s_check_rows) A.f_check_rows cdv A' outer s H E) hx
  have nd := sc_check_rows.nd
  have hu1 := hu_of hr
  have hu40 : (A'.deeper (envOfC "check_rows" (defScope s_check_rows) s.heap.objs.size A.f_check_rows cdv)).units + 40 < cLine := by have := hr.units; omega
  exact (ss_cons (s_if (PW2.pt (t_or (t_not (t_val (e_isi (by rfl) rfl T.z_isinstance rfl T.z_list (e_var 0)))) (t_or1 (t_cmp (o_eq hu40) (e_b_len rfl T.z_len (a_cons (e_var 0) a_nil)) e_int (nomark _))))) (ss_one (s_raise hE rfl T.mc_BadFloor T.xc_BadFloor rfl (a_cons e_str a_nil))) ss_nil) (ss_one (s_for (pass_own rfl rfl) rfl (e_var 0) (g_name (i := 1) nd rfl (by first | exact Or.inl rfl | exact Or.inr rfl)) (ss_cons (s_if (PW2.pt (t_or (t_not (t_val (e_isi (by rfl) rfl T.z_isinstance rfl T.z_list (e_var 1)))) (t_or1 (t_cmp (o_eq hu40) (e_b_len rfl T.z_len (a_cons (e_var 1) a_nil)) e_int (nomark _))))) (ss_one (s_raise hE rfl T.mc_BadFloor T.xc_BadFloor rfl (a_cons e_str a_nil))) ss_nil) (ss_one (s_if (t_cmp (o_neS hu40) (e_b_len rfl T.z_len (a_cons (e_var 1) a_nil)) (e_b_len rfl T.z_len (a_cons (e_ix hu1 (e_var 0) e_int) a_nil)) (nomark _)) (ss_one (s_raise hE rfl T.mc_BadFloor T.xc_BadFloor rfl (a_cons e_str a_nil))) ss_nil))))))
theorem sc_check_floor : FnScope ["rows", "dock"] ["rows", "dock"] (defScope s_check_floor) := ⟨rfl, rfl, rfl, by decide +kernel, rfl, by decide +kernel, by decide +kernel⟩
theorem ok_check_floor (T : Txt K w mg A) (G_check_dock : FnOk P w K mg base (CXo P w K) 3 A.f_check_dock A.d_check_dock ["rows", "dock"] (lowSp K (sp_check_dock A))) (G_check_grounds : FnOk P w K mg base (CXo P w K) 4 A.f_check_grounds A.d_check_grounds ["rows"] (lowSp K (sp_check_grounds A))) (G_check_rows : FnOk P w K mg base (CXo P w K) 1 A.f_check_rows A.d_check_rows ["rows"] (lowSp K (sp_check_rows A))) : FnOk P w K mg base (CXo P w K) 5 A.f_check_floor A.d_check_floor ["rows", "dock"] (lowSp K (sp_check_floor A)) := by
  refine fun_okX T.F_check_floor sc_check_floor len_check_floor fun cdv A' outer s H E hr ws G Q E2 hx h => ⟨_, ?_, hd_check_floor A ws G Q E2 h⟩
  have hE := xle_def (X := cxOf (CXo P w K) P w K mg base ["rows", "dock"] "check_floor" (defScope s_check_floor) A.f_check_floor cdv A' outer s H E) hx
  have nd := sc_check_floor.nd
  have hu1 := hu_of hr
  have hu40 : (A'.deeper (envOfC "check_floor" (defScope s_check_floor) s.heap.objs.size A.f_check_floor cdv)).units + 40 < cLine := by have := hr.units; omega
  exact (ss_cons (s_expr (e_callX hE G_check_rows (hr.mono (by decide)) rfl T.m_check_rows T.k_check_rows T.b_check_rows (a_cons (e_var 0) a_nil))) (ss_cons (s_expr (e_callX hE G_check_grounds (hr.mono (by decide)) rfl T.m_check_grounds T.k_check_grounds T.b_check_grounds (a_cons (e_var 0) a_nil))) (ss_cons (s_expr (e_callX hE G_check_dock (hr.mono (by decide)) rfl T.m_check_dock T.k_check_dock T.b_check_dock (a_cons (e_var 0) (a_cons (e_var 1) a_nil)))) (ss_one (s_if (t_cmp o_gt (e_op o_mul (e_b_len rfl T.z_len (a_cons (e_var 0) a_nil)) (e_b_len rfl T.z_len (a_cons (e_ix hu1 (e_var 0) e_int) a_nil))) (e_glob (v := .int 2500) rfl T.m_MOST_GROUNDS ⟨_, rfl⟩ fun _ => .int _) (nomark _)) (ss_one (s_raise hE rfl T.mc_TooMany T.xc_TooMany rfl (a_cons e_str a_nil))) ss_nil)))))
theorem sc_open_grounds : FnScope ["rows", "dock", "found", "i", "row", "j", "ground"] ["rows", "dock"] (defScope s_open_grounds) := ⟨rfl, rfl, rfl, by decide +kernel, rfl, by decide +kernel, by decide +kernel⟩
theorem ok_open_grounds (T : Txt K w mg A) : FnOk P w K mg base CX0 1 A.f_open_grounds A.d_open_grounds ["rows", "dock"] (lowSp K (sp_open_grounds A)) := by
  refine fun_ok2 T.F_open_grounds sc_open_grounds len_open_grounds fun cdv A' outer s H E hr ws G Q E2 h => ⟨_, ?_, hd_open_grounds A ws G Q E2 h⟩
  have nd := sc_open_grounds.nd
  have hu1 := hu_of hr
  have hu40 : (A'.deeper (envOfC "open_grounds" (defScope s_open_grounds) s.heap.objs.size A.f_open_grounds cdv)).units + 40 < cLine := by have := hr.units; omega
  exact (ss_cons (s_set (i := 2) nd rfl (by first | exact Or.inl rfl | exact Or.inr rfl) e_dnewT) (ss_cons (s_forI PassesOwn.never rfl (i_enum rfl T.z_enumerate (a_cons (e_var 0) a_nil)) (g_tup rfl (gs_cons (g_name (i := 3) nd rfl (by first | exact Or.inl rfl | exact Or.inr rfl)) (gs_cons (g_name (i := 4) nd rfl (by first | exact Or.inl rfl | exact Or.inr rfl)) gs_nil))) (ss_one (s_forI PassesOwn.never rfl (i_enum rfl T.z_enumerate (a_cons (e_var 4) a_nil)) (g_tup rfl (gs_cons (g_name (i := 5) nd rfl (by first | exact Or.inl rfl | exact Or.inr rfl)) (gs_cons (g_name (i := 6) nd rfl (by first | exact Or.inl rfl | exact Or.inr rfl)) gs_nil))) (ss_one (s_if (t_cmp o_isnot (e_var 6) e_non (nomark _)) (ss_one (s_asg (e_var 6) (g_sub hu1 (e_var 2) (e_tup (a_cons (e_op o_sub (e_var 3) (e_ix hu1 (e_var 1) e_int)) (a_cons (e_op o_sub (e_var 5) (e_ix hu1 (e_var 1) e_int)) a_nil)))))) ss_nil))))) (ss_one (s_ret (e_var 2)))))
theorem sc_Floor_init : FnScope ["self", "rows", "dock"] ["self", "rows", "dock"] (defScope s_Floor_init) := ⟨rfl, rfl, rfl, by decide +kernel, rfl, by decide +kernel, by decide +kernel⟩
theorem ok_Floor_init (T : Txt K w mg A) (G_check_floor : FnOk P w K mg base (CXo P w K) 5 A.f_check_floor A.d_check_floor ["rows", "dock"] (lowSp K (sp_check_floor A))) (G_open_grounds : FnOk P w K mg base CX0 1 A.f_open_grounds A.d_open_grounds ["rows", "dock"] (lowSp K (sp_open_grounds A))) : FnOk P w K mg base (CXo P w K) 6 A.f_Floor_init A.d_Floor_init ["self", "rows", "dock"] (lowSp K (sp_Floor_init A)) := by
  refine fun_okX T.F_Floor_init sc_Floor_init len_Floor_init fun cdv A' outer s H E hr ws G Q E2 hx h => ⟨_, ?_, hd_Floor_init A ws G Q E2 h⟩
  have hE := xle_def (X := cxOf (CXo P w K) P w K mg base ["self", "rows", "dock"] "Floor.__init__" (defScope s_Floor_init) A.f_Floor_init cdv A' outer s H E) hx
  have nd := sc_Floor_init.nd
  have hu1 := hu_of hr
  have hu40 : (A'.deeper (envOfC "Floor.__init__" (defScope s_Floor_init) s.heap.objs.size A.f_Floor_init cdv)).units + 40 < cLine := by have := hr.units; omega
  exact (ss_cons (s_expr (e_callX hE G_check_floor (hr.mono (by decide)) rfl T.m_check_floor T.k_check_floor T.b_check_floor (a_cons (e_var 1) (a_cons (e_var 2) a_nil)))) (ss_cons (s_fld T.cl_Floor T.n_Floor_row_lists (e_var 0) (e_comp rfl (i_seq (e_var 1)) (compOk_of (osc := defScope s_Floor_init) (N := ["self", "rows", "dock"]) (cap := [none]) (N' := ["row"]) (by decide +kernel) rfl rfl) (fun cl C s' H' fp => ⟨(g_name (i := 0) (show (["row"] : List Str).Nodup by decide +kernel) rfl (by first | exact Or.inl rfl | exact Or.inr rfl)), pts2_nil, (e_b_list rfl T.z_list (a_cons (e_var 0) a_nil))⟩))) (ss_cons (s_fld T.cl_Floor T.n_Floor_dock_place (e_var 0) (e_var 2)) (ss_one (s_fld T.cl_Floor T.n_Floor_grounds (e_var 0) (e_call G_open_grounds (hr.mono (by decide)) rfl T.m_open_grounds T.k_open_grounds T.b_open_grounds (a_cons (e_var 1) (a_cons (e_var 2) a_nil))))))))
theorem sc_law_said : FnScope ["_law_rows_here", "_law_dock", "_law_word", "e", "_law_some"] ["_law_rows_here", "_law_dock"] (defScope s_law_said) := ⟨rfl, rfl, rfl, by decide +kernel, rfl, by decide +kernel, by decide +kernel⟩
theorem ok_law_said (T : Txt K w mg A) (G_Floor_init : FnOk P w K mg base (CXo P w K) 6 A.f_Floor_init A.d_Floor_init ["self", "rows", "dock"] (lowSp K (sp_Floor_init A))) : FnOk P w K mg base CX0 9 A.f_law_said A.d_law_said ["_law_rows_here", "_law_dock"] (lowSp K (sp_law_said A)) := by
  refine fun_okF T.F_law_said sc_law_said len_law_said fun cdv A' outer s H E hr ws G Q E2 h => ⟨_, ?_, hd_law_said A ws G Q E2 h⟩
  have nd := sc_law_said.nd
  have hu1 := hu_of hr
  have hu40 : (A'.deeper (envOfC "_law_said" (defScope s_law_said) s.heap.objs.size A.f_law_said cdv)).units + 40 < cLine := by have := hr.units; omega
  refine pf_cons (pf1_of (s_set (i := 2) nd rfl (by first | exact Or.inl rfl | exact Or.inr rfl) e_str)) (pf_cons (pf1_try (Dc := A.c_DustError) nd rfl rfl rfl T.mc_DustError T.xc_DustError ?hok ?hb ?hh) (pf_of (ss_one (s_ret (e_var 2)))))
  case hok =>
    rintro C (rfl | rfl)
    · exact ⟨T.xc_BadFloor, mro_of T.mr_BadFloor_DustError⟩
    · exact ⟨T.xc_TooMany, mro_of T.mr_TooMany_DustError⟩
  case hb =>
    intro pn Ex Ex2 hE
    exact ss_one (s_expr (e_makeX hE T.mk_Floor G_Floor_init (hr.mono (by decide)) rfl T.mc_Floor T.b_Floor_init (a_cons (e_var 0) (a_cons (e_var 1) a_nil))))
  case hh =>
    intro pn x ox C okC hcl xo
    refine ss_ex fun b hC => ?_
    have hp : (x, ox) ∈ (x, ox) :: pn := List.mem_cons_self
    obtain ⟨y, kv, k1, k2, k3, k4, k5, k6⟩ : TyX K C ∧ PySem.W.kitOne K (.ref C) (.type "ValueError") = some true ∧ PySem.W.kitOne K (.ref C) (.ref A.c_BadFloor) = some b ∧ PySem.W.kitOne K (.ref C) (.ref A.c_TooMany) = some (!b) ∧
        PySem.W.kitOne K (.ref C) (.ref A.c_Clash) = some false ∧ PySem.W.kitOne K (.ref C) (.ref A.c_NoDock) = some false ∧ PySem.W.kitOne K (.ref C) (.ref A.c_NoRow) = some false ∧ PySem.W.kitOne K (.ref C) (.ref A.c_NoText) = some false := by
      cases b with
      | true => subst hC; exact ⟨T.ty_BadFloor, T.kv_BadFloor, T.ki_BadFloor_BadFloor, T.ki_BadFloor_TooMany, T.ki_BadFloor_Clash, T.ki_BadFloor_NoDock, T.ki_BadFloor_NoRow, T.ki_BadFloor_NoText⟩
      | false => subst hC; exact ⟨T.ty_TooMany, T.kv_TooMany, T.ki_TooMany_BadFloor, T.ki_TooMany_TooMany, T.ki_TooMany_Clash, T.ki_TooMany_NoDock, T.ki_TooMany_NoRow, T.ki_TooMany_NoText⟩
    refine ss_cons (s_set (i := 4) nd rfl (by first | exact Or.inl rfl | exact Or.inr rfl) (e_lst (a_cons (e_isXo y k1 hp hcl xo rfl T.z_isinstance rfl T.mc_BadFloor (e_var 3)) (a_cons (e_isXo y k2 hp hcl xo rfl T.z_isinstance rfl T.mc_TooMany (e_var 3)) (a_cons (e_isXo y k3 hp hcl xo rfl T.z_isinstance rfl T.mc_Clash (e_var 3)) (a_cons (e_isXo y k4 hp hcl xo rfl T.z_isinstance rfl T.mc_NoDock (e_var 3)) a_nil)))))) ?_
    refine ss_cons (s_set (i := 4) nd rfl (by first | exact Or.inl rfl | exact Or.inr rfl) (e_op o_add (e_var 4) (e_lst (a_cons (e_isXo y k5 hp hcl xo rfl T.z_isinstance rfl T.mc_NoRow (e_var 3)) (a_cons (e_isXo y k6 hp hcl xo rfl T.z_isinstance rfl T.mc_NoText (e_var 3)) a_nil))))) ?_
    refine ss_cons (s_set (i := 2) nd rfl (by first | exact Or.inl rfl | exact Or.inr rfl) e_str) ?_
    refine ss_one (s_if (PW2.pt (t_and (t_val (e_isXv y kv hp hcl xo rfl T.z_isinstance rfl T.z_ValueError (e_var 3))) (t_and1 (t_cmp (o_eq hu40) (e_b_len rfl T.z_len (a_cons ?_ a_nil)) e_int (nomark _))))) (ss_one (s_set (i := 2) nd rfl (by first | exact Or.inl rfl | exact Or.inr rfl) (e_ix hu1 (e_lst (a_cons e_str (a_cons e_str (a_cons e_str (a_cons e_str (a_cons e_str (a_cons e_str a_nil))))))) (e_m_indexT (e_var 4) (a_cons e_bl a_nil))))) ss_nil)
    exact e_compQ rfl hp xo (i_lstQ (e_var 4)) (compOk_of (osc := defScope s_law_said) (N := ["_law_rows_here", "_law_dock", "_law_word", "e", "_law_some"]) (cap := [none]) (N' := ["_law_one"]) (by decide +kernel) rfl rfl) (fun cl C s' H' fp => ⟨(g_name (i := 0) (show (["_law_one"] : List Str).Nodup by decide +kernel) rfl (by first | exact Or.inl rfl | exact Or.inr rfl)), pts2_one (t_val (e_var 0)), (e_var 0)⟩)
theorem sc_law_spoilt : FnScope ["_law_rows_here", "_law_dock", "_law_cell", "_law_at", "_law_row", "_law_way", "_law_spot", "_law_wrong", "_law_shut"] ["_law_rows_here", "_law_dock", "_law_cell"] (defScope s_law_spoilt) := ⟨rfl, rfl, rfl, by decide +kernel, rfl, by decide +kernel, by decide +kernel⟩
theorem ok_law_spoilt (T : Txt K w mg A) (G_law_no_ground : FnOk P w K mg base CX0 1 A.f_law_no_ground A.d_law_no_ground ["_law_cell"] (lowSp K (sp_law_no_ground A))) : FnOk P w K mg base CX0 2 A.f_law_spoilt A.d_law_spoilt ["_law_rows_here", "_law_dock", "_law_cell"] (lowSp K (sp_law_spoilt A)) := by
  refine fun_ok2 T.F_law_spoilt sc_law_spoilt len_law_spoilt fun cdv A' outer s H E hr ws G Q E2 h => ⟨_, ?_, hd_law_spoilt A ws G Q E2 h⟩
  have nd := sc_law_spoilt.nd
  have hu1 := hu_of hr
  have hu40 : (A'.deeper (envOfC "_law_spoilt" (defScope s_law_spoilt) s.heap.objs.size A.f_law_spoilt cdv)).units + 40 < cLine := by have := hr.units; omega
  exact (ss_cons (s_set (i := 3) nd rfl (by first | exact Or.inl rfl | exact Or.inr rfl) (e_op o_mod (e_op o_fdiv (e_var 2) e_int) (e_b_len rfl T.z_len (a_cons (e_var 0) a_nil)))) (ss_cons (s_set (i := 4) nd rfl (by first | exact Or.inl rfl | exact Or.inr rfl) (e_ix hu1 (e_var 0) (e_var 3))) (ss_cons (s_set (i := 5) nd rfl (by first | exact Or.inl rfl | exact Or.inr rfl) (e_op o_mod (e_var 2) e_int)) (ss_cons (s_if (t_cmp o_lt (e_var 5) e_int (nomark _)) (ss_cons (s_set (i := 6) nd rfl (by first | exact Or.inl rfl | exact Or.inr rfl) (e_op o_mod (e_op o_fdiv (e_var 2) e_int) (e_b_len rfl T.z_len (a_cons (e_var 4) a_nil)))) (ss_cons (s_set (i := 7) nd rfl (by first | exact Or.inl rfl | exact Or.inr rfl) (e_op o_add (e_op o_add (e_slice (e_var 4) p_none (p_some (e_var 6))) (e_lst (a_cons (e_call G_law_no_ground (hr.mono (by decide)) rfl T.m_law_no_ground T.k_law_no_ground T.b_law_no_ground (a_cons (e_op o_fdiv (e_var 2) e_int) a_nil)) a_nil))) (e_slice (e_var 4) (p_some (e_op o_add (e_var 6) e_int)) p_none))) (ss_one (s_ret (e_tup (a_cons (e_op o_add (e_op o_add (e_slice (e_var 0) p_none (p_some (e_var 3))) (e_lst (a_cons (e_var 7) a_nil))) (e_slice (e_var 0) (p_some (e_op o_add (e_var 3) e_int)) p_none)) (a_cons (e_var 1) a_nil))))))) ss_nil) (ss_cons (s_if (t_cmp (o_eq hu40) (e_var 5) e_int (nomark _)) (ss_cons (s_set (i := 7) nd rfl (by first | exact Or.inl rfl | exact Or.inr rfl) (e_ix hu1 (e_lst (a_cons (e_op o_add (e_var 4) (e_lst (a_cons e_non a_nil))) (a_cons (e_op o_add (e_var 4) (e_lst (a_cons (e_tup (a_cons e_int (a_cons e_int a_nil))) a_nil))) (a_cons (e_b_tuple rfl T.z_tuple (a_cons (e_var 4) a_nil)) (a_cons e_non (a_cons e_dnewT (a_cons e_str a_nil))))))) (e_op o_mod (e_op o_fdiv (e_var 2) e_int) e_int))) (ss_cons (s_if (PW2.pt (t_and (t_cmp (o_eq hu40) (e_b_len rfl T.z_len (a_cons (e_var 0) a_nil)) e_int (nomark _)) (t_and1 (t_val (e_isi (by rfl) rfl T.z_isinstance rfl T.z_list (e_var 7)))))) (ss_one (s_set (i := 7) nd rfl (by first | exact Or.inl rfl | exact Or.inr rfl) (e_b_tuple rfl T.z_tuple (a_cons (e_var 7) a_nil)))) ss_nil) (ss_one (s_ret (e_tup (a_cons (e_op o_add (e_op o_add (e_slice (e_var 0) p_none (p_some (e_var 3))) (e_lst (a_cons (e_var 7) a_nil))) (e_slice (e_var 0) (p_some (e_op o_add (e_var 3) e_int)) p_none)) (a_cons (e_var 1) a_nil))))))) ss_nil) (ss_cons (s_if (t_cmp (o_eq hu40) (e_var 5) e_int (nomark _)) (ss_one (s_ret (e_tup (a_cons (e_ix hu1 (e_lst (a_cons (e_lst a_nil) (a_cons e_non (a_cons (e_b_tuple rfl T.z_tuple (a_cons (e_var 0) a_nil)) (a_cons e_dnewT (a_cons (e_lst (a_cons (e_lst a_nil) a_nil)) (a_cons (e_lst (a_cons (e_lst a_nil) (a_cons (e_lst a_nil) a_nil))) (a_cons (e_ix hu1 (e_var 0) e_int) (a_cons e_str a_nil))))))))) (e_op o_mod (e_op o_fdiv (e_var 2) e_int) e_int)) (a_cons (e_var 1) a_nil))))) ss_nil) (ss_cons (s_if (t_cmp (o_eq hu40) (e_var 5) e_int (nomark _)) (ss_cons (s_set (i := 7) nd rfl (by first | exact Or.inl rfl | exact Or.inr rfl) (e_ix hu1 (e_lst (a_cons (e_b_list rfl T.z_list (a_cons (e_var 1) a_nil)) (a_cons (e_tup (a_cons (e_ix hu1 (e_var 1) e_int) a_nil)) (a_cons (e_op o_add (e_var 1) (e_tup (a_cons e_int a_nil))) (a_cons e_non (a_cons (e_tup (a_cons e_bl (a_cons (e_ix hu1 (e_var 1) e_int) a_nil))) (a_cons (e_tup (a_cons (e_ix hu1 (e_var 1) e_int) (a_cons e_non a_nil))) (a_cons e_int (a_cons e_str a_nil))))))))) (e_op o_mod (e_op o_fdiv (e_var 2) e_int) e_int))) (ss_one (s_ret (e_tup (a_cons (e_var 0) (a_cons (e_var 7) a_nil)))))) ss_nil) (ss_cons (s_if (t_cmp (o_eq hu40) (e_var 5) e_int (nomark _)) (ss_cons (s_set (i := 7) nd rfl (by first | exact Or.inl rfl | exact Or.inr rfl) (e_ix hu1 (e_lst (a_cons (e_tup (a_cons (e_op o_sub e_int e_int) (a_cons (e_ix hu1 (e_var 1) e_int) a_nil))) (a_cons (e_tup (a_cons (e_ix hu1 (e_var 1) e_int) (a_cons (e_op o_sub e_int e_int) a_nil))) (a_cons (e_tup (a_cons (e_b_len rfl T.z_len (a_cons (e_var 0) a_nil)) (a_cons (e_ix hu1 (e_var 1) e_int) a_nil))) (a_cons (e_tup (a_cons (e_ix hu1 (e_var 1) e_int) (a_cons (e_b_len rfl T.z_len (a_cons (e_var 4) a_nil)) a_nil))) a_nil))))) (e_op o_mod (e_op o_fdiv (e_var 2) e_int) e_int))) (ss_one (s_ret (e_tup (a_cons (e_var 0) (a_cons (e_var 7) a_nil)))))) ss_nil) (ss_cons (s_setComp (i := 8) nd rfl rfl rfl (i_seq (e_var 0)) (compOk_of (osc := defScope s_law_spoilt) (N := ["_law_rows_here", "_law_dock", "_law_cell", "_law_at", "_law_row", "_law_way", "_law_spot", "_law_wrong", "_law_shut"]) (cap := [none]) (N' := ["_law_one"]) (by decide +kernel) rfl rfl) (fun cl C s' H' fp => ⟨(g_name (i := 0) (show (["_law_one"] : List Str).Nodup by decide +kernel) rfl (by first | exact Or.inl rfl | exact Or.inr rfl)), pts2_nil, (e_b_list rfl T.z_list (a_cons (e_var 0) a_nil))⟩)) (ss_cons (s_asg e_non (g_sub hu1 (e_ix hu1 (e_var 8) (e_ix hu1 (e_var 1) e_int)) (e_ix hu1 (e_var 1) e_int))) (ss_one (s_ret (e_tup (a_cons (e_var 8) (a_cons (e_var 1) a_nil)))))))))))))))
theorem sc_law : FnScope ["_law_script", "_law_many", "_law_wide", "_law_rows_here", "_law_dock", "_law_wrong", "_law_spot", "_law_handed", "_law_k", "_law_cell", "_law_size", "_law_great", "_law_due"] ["_law_script"] (defScope s_law) := ⟨rfl, rfl, rfl, by decide +kernel, rfl, by decide +kernel, by decide +kernel⟩
theorem ok_law (T : Txt K w mg A) (G_law_cell_at : FnOk P w K mg base CX0 1 A.f_law_cell_at A.d_law_cell_at ["_law_script", "_law_k"] (lowSp K (sp_law_cell_at A))) (G_law_kept : FnOk P w K mg base CX0 1 A.f_law_kept A.d_law_kept ["_law_rows_here"] (lowSp K (sp_law_kept A))) (G_law_no_ground : FnOk P w K mg base CX0 1 A.f_law_no_ground A.d_law_no_ground ["_law_cell"] (lowSp K (sp_law_no_ground A))) (G_law_rows : FnOk P w K mg base CX0 1 A.f_law_rows A.d_law_rows ["_law_cell", "_law_many", "_law_wide"] (lowSp K (sp_law_rows A))) (G_law_said : FnOk P w K mg base CX0 9 A.f_law_said A.d_law_said ["_law_rows_here", "_law_dock"] (lowSp K (sp_law_said A))) (G_law_spoilt : FnOk P w K mg base CX0 2 A.f_law_spoilt A.d_law_spoilt ["_law_rows_here", "_law_dock", "_law_cell"] (lowSp K (sp_law_spoilt A))) : FnOk P w K mg base CX0 10 A.f_law A.d_law ["_law_script"] (lowSp K (sp_law A)) := by
  refine fun_ok2 T.F_law sc_law len_law fun cdv A' outer s H E hr ws G Q E2 h => ⟨_, ?_, hd_law A ws G Q E2 h⟩
  have nd := sc_law.nd
  have hu1 := hu_of hr
  have hu40 : (A'.deeper (envOfC "law" (defScope s_law) s.heap.objs.size A.f_law cdv)).units + 40 < cLine := by have := hr.units; omega
  exact (ss_cons (s_set (i := 1) nd rfl (by first | exact Or.inl rfl | exact Or.inr rfl) (e_op o_add e_int (e_op o_mod (e_call G_law_cell_at (hr.mono (by decide)) rfl T.m_law_cell_at T.k_law_cell_at T.b_law_cell_at (a_cons (e_var 0) (a_cons e_int a_nil))) e_int))) (ss_cons (s_set (i := 2) nd rfl (by first | exact Or.inl rfl | exact Or.inr rfl) (e_op o_add e_int (e_op o_mod (e_op o_fdiv (e_call G_law_cell_at (hr.mono (by decide)) rfl T.m_law_cell_at T.k_law_cell_at T.b_law_cell_at (a_cons (e_var 0) (a_cons e_int a_nil))) e_int) e_int))) (ss_cons (s_set (i := 3) nd rfl (by first | exact Or.inl rfl | exact Or.inr rfl) (e_call G_law_rows (hr.mono (by decide)) rfl T.m_law_rows T.k_law_rows T.b_law_rows (a_cons (e_call G_law_cell_at (hr.mono (by decide)) rfl T.m_law_cell_at T.k_law_cell_at T.b_law_cell_at (a_cons (e_var 0) (a_cons e_int a_nil))) (a_cons (e_var 1) (a_cons (e_var 2) a_nil))))) (ss_cons (s_set (i := 4) nd rfl (by first | exact Or.inl rfl | exact Or.inr rfl) (e_tup (a_cons (e_op o_mod (e_call G_law_cell_at (hr.mono (by decide)) rfl T.m_law_cell_at T.k_law_cell_at T.b_law_cell_at (a_cons (e_var 0) (a_cons e_int a_nil))) (e_var 1)) (a_cons (e_op o_mod (e_op o_fdiv (e_call G_law_cell_at (hr.mono (by decide)) rfl T.m_law_cell_at T.k_law_cell_at T.b_law_cell_at (a_cons (e_var 0) (a_cons e_int a_nil))) e_int) (e_var 2)) a_nil)))) (ss_cons (s_asg (e_tup (a_cons (e_op o_add e_int (e_op o_mod (e_op o_fdiv (e_call G_law_cell_at (hr.mono (by decide)) rfl T.m_law_cell_at T.k_law_cell_at T.b_law_cell_at (a_cons (e_var 0) (a_cons e_int a_nil))) e_int) (e_op o_pow e_int e_int))) (a_cons e_int a_nil))) (g_sub hu1 (e_ix hu1 (e_var 3) (e_ix hu1 (e_var 4) e_int)) (e_ix hu1 (e_var 4) e_int))) (ss_cons (s_asg (e_call G_law_spoilt (hr.mono (by decide)) rfl T.m_law_spoilt T.k_law_spoilt T.b_law_spoilt (a_cons (e_var 3) (a_cons (e_var 4) (a_cons (e_call G_law_cell_at (hr.mono (by decide)) rfl T.m_law_cell_at T.k_law_cell_at T.b_law_cell_at (a_cons (e_var 0) (a_cons e_int a_nil))) a_nil)))) (g_tup rfl (gs_cons (g_name (i := 5) nd rfl (by first | exact Or.inl rfl | exact Or.inr rfl)) (gs_cons (g_name (i := 6) nd rfl (by first | exact Or.inl rfl | exact Or.inr rfl)) gs_nil)))) (ss_cons (s_set (i := 7) nd rfl (by first | exact Or.inl rfl | exact Or.inr rfl) (e_call G_law_kept (hr.mono (by decide)) rfl T.m_law_kept T.k_law_kept T.b_law_kept (a_cons (e_var 5) a_nil))) (ss_cons (s_forR1 PassesOwn.never rfl rfl T.z_range (a_cons e_int a_nil) (g_name (i := 8) nd rfl (by first | exact Or.inl rfl | exact Or.inr rfl)) (ss_one (s_if (PW2.pt (t_or (t_cmp (o_neS hu40) (e_call G_law_said (hr.mono (by decide)) rfl T.m_law_said T.k_law_said T.b_law_said (a_cons (e_var 7) (a_cons (e_var 6) a_nil))) e_str (nomark _)) (t_or (t_cmp (o_neS hu40) (e_call G_law_kept (hr.mono (by decide)) rfl T.m_law_kept T.k_law_kept T.b_law_kept (a_cons (e_var 7) a_nil)) (e_var 5) (nomark _)) (t_or1 (t_cmp (o_neS hu40) (e_call G_law_said (hr.mono (by decide)) rfl T.m_law_said T.k_law_said T.b_law_said (a_cons (e_var 3) (a_cons (e_var 4) a_nil))) e_str (nomark _)))))) (ss_one (s_ret e_bl)) ss_nil))) (ss_cons (s_set (i := 9) nd rfl (by first | exact Or.inl rfl | exact Or.inr rfl) (e_call G_law_cell_at (hr.mono (by decide)) rfl T.m_law_cell_at T.k_law_cell_at T.b_law_cell_at (a_cons (e_var 0) (a_cons e_int a_nil)))) (ss_cons (s_set (i := 10) nd rfl (by first | exact Or.inl rfl | exact Or.inr rfl) (e_ix hu1 (e_lst (a_cons (e_tup (a_cons e_int (a_cons e_int a_nil))) (a_cons (e_tup (a_cons e_int (a_cons e_int a_nil))) (a_cons (e_tup (a_cons e_int (a_cons e_int a_nil))) (a_cons (e_tup (a_cons e_int (a_cons e_int a_nil))) (a_cons (e_tup (a_cons e_int (a_cons e_int a_nil))) (a_cons (e_tup (a_cons e_int (a_cons e_int a_nil))) (a_cons (e_tup (a_cons e_int (a_cons e_int a_nil))) (a_cons (e_tup (a_cons e_int (a_cons e_int a_nil))) a_nil))))))))) (e_op o_mod (e_var 9) e_int))) (ss_cons (s_setComp (i := 11) nd rfl rfl rfl (i_range1 rfl T.z_range (a_cons (e_ix hu1 (e_var 10) e_int) a_nil)) (compOk_of (osc := defScope s_law) (N := ["_law_script", "_law_many", "_law_wide", "_law_rows_here", "_law_dock", "_law_wrong", "_law_spot", "_law_handed", "_law_k", "_law_cell", "_law_size", "_law_great", "_law_due"]) (cap := [none, some 10]) (N' := ["_law_r", "_law_size"]) (by decide +kernel) rfl rfl) (fun cl C s' H' fp => ⟨(g_name (i := 0) (show (["_law_r", "_law_size"] : List Str).Nodup by decide +kernel) rfl (by first | exact Or.inl rfl | exact Or.inr rfl)), pts2_nil, (e_op o_mul (e_lst (a_cons (e_tup (a_cons e_int (a_cons e_int a_nil))) a_nil)) (e_ix hu1 (e_var 1) e_int))⟩)) (ss_cons (s_set (i := 12) nd rfl (by first | exact Or.inl rfl | exact Or.inr rfl) (e_ix hu1 (e_lst (a_cons e_str (a_cons e_str a_nil))) (e_op o_fdiv (e_op o_mod (e_var 9) e_int) e_int))) (ss_cons (s_if (t_cmp (o_eq hu40) (e_op o_mod (e_op o_fdiv (e_var 9) e_int) e_int) e_int (nomark _)) (ss_cons (s_asg (e_call G_law_no_ground (hr.mono (by decide)) rfl T.m_law_no_ground T.k_law_no_ground T.b_law_no_ground (a_cons (e_op o_fdiv (e_var 9) e_int) a_nil)) (g_sub hu1 (e_ix hu1 (e_var 11) (e_neg e_int)) (e_neg e_int))) (ss_one (s_set (i := 12) nd rfl (by first | exact Or.inl rfl | exact Or.inr rfl) e_str))) ss_nil) (ss_one (s_ret (e_cmp (o_eq hu40) (e_call G_law_said (hr.mono (by decide)) rfl T.m_law_said T.k_law_said T.b_law_said (a_cons (e_var 11) (a_cons (e_tup (a_cons e_int (a_cons e_int a_nil))) a_nil))) (e_var 12) (nomark _)))))))))))))))))
theorem ok_all (T : Txt K w mg A) : FnOk P w K mg base CX0 10 A.f_law A.d_law ["_law_script"] (lowSp K (sp_law A)) := by
  have G_law_cell_at := ok_law_cell_at (P := P) (base := base) T
  have G_law_kept := ok_law_kept (P := P) (base := base) T
  have G_law_no_ground := ok_law_no_ground (P := P) (base := base) T
  have G_law_rows := ok_law_rows (P := P) (base := base) T
  have G_is_whole := ok_is_whole (P := P) (base := base) T
  have G_is_whole_pair := ok_is_whole_pair (P := P) (base := base) T G_is_whole
  have G_check_dock := ok_check_dock (P := P) (base := base) T G_is_whole_pair
  have G_is_ground := ok_is_ground (P := P) (base := base) T G_is_whole_pair
  have G_check_grounds := ok_check_grounds (P := P) (base := base) T G_is_ground
  have G_check_rows := ok_check_rows (P := P) (base := base) T
  have G_check_floor := ok_check_floor (P := P) (base := base) T G_check_dock G_check_grounds G_check_rows
  have G_open_grounds := ok_open_grounds (P := P) (base := base) T
  have G_Floor_init := ok_Floor_init (P := P) (base := base) T G_check_floor G_open_grounds
  have G_law_said := ok_law_said (P := P) (base := base) T G_Floor_init
  have G_law_spoilt := ok_law_spoilt (P := P) (base := base) T G_law_no_ground
  exact ok_law T G_law_cell_at G_law_kept G_law_no_ground G_law_rows G_law_said G_law_spoilt
end
theorem all_mk {l : PySem.W.OpenLaw} {w : World} {K : PySem.W.Frag} {h : Heap} {mg : Str → Option Value} {fa : Addr} (X : K.In h) (G : h.Ns mainGlobals mg) (hfa : mg "law" = some (.ref fa))
    {C_Floor : Addr}
    {f_law_cell_at : Addr} {od_law_cell_at an_law_cell_at : Option Addr} {sl_law_cell_at : Array (Option Value)} {oc_law_cell_at kV_law_cell_at dc_law_cell_at pm_law_cell_at cd_law_cell_at ct_law_cell_at : Value}
    {f_law_kept : Addr} {od_law_kept an_law_kept : Option Addr} {sl_law_kept : Array (Option Value)} {oc_law_kept kV_law_kept dc_law_kept pm_law_kept cd_law_kept ct_law_kept : Value}
    {f_law_no_ground : Addr} {od_law_no_ground an_law_no_ground : Option Addr} {sl_law_no_ground : Array (Option Value)} {oc_law_no_ground kV_law_no_ground dc_law_no_ground pm_law_no_ground cd_law_no_ground ct_law_no_ground : Value}
    {f_law_rows : Addr} {od_law_rows an_law_rows : Option Addr} {sl_law_rows : Array (Option Value)} {oc_law_rows kV_law_rows dc_law_rows pm_law_rows cd_law_rows ct_law_rows : Value}
    {f_is_whole : Addr} {od_is_whole an_is_whole : Option Addr} {sl_is_whole : Array (Option Value)} {oc_is_whole kV_is_whole dc_is_whole pm_is_whole cd_is_whole ct_is_whole : Value}
    {f_is_whole_pair : Addr} {od_is_whole_pair an_is_whole_pair : Option Addr} {sl_is_whole_pair : Array (Option Value)} {oc_is_whole_pair kV_is_whole_pair dc_is_whole_pair pm_is_whole_pair cd_is_whole_pair ct_is_whole_pair : Value}
    {f_check_dock : Addr} {od_check_dock an_check_dock : Option Addr} {sl_check_dock : Array (Option Value)} {oc_check_dock kV_check_dock dc_check_dock pm_check_dock cd_check_dock ct_check_dock : Value}
    {f_is_ground : Addr} {od_is_ground an_is_ground : Option Addr} {sl_is_ground : Array (Option Value)} {oc_is_ground kV_is_ground dc_is_ground pm_is_ground cd_is_ground ct_is_ground : Value}
    {f_check_grounds : Addr} {od_check_grounds an_check_grounds : Option Addr} {sl_check_grounds : Array (Option Value)} {oc_check_grounds kV_check_grounds dc_check_grounds pm_check_grounds cd_check_grounds ct_check_grounds : Value}
    {f_check_rows : Addr} {od_check_rows an_check_rows : Option Addr} {sl_check_rows : Array (Option Value)} {oc_check_rows kV_check_rows dc_check_rows pm_check_rows cd_check_rows ct_check_rows : Value}
    {f_check_floor : Addr} {od_check_floor an_check_floor : Option Addr} {sl_check_floor : Array (Option Value)} {oc_check_floor kV_check_floor dc_check_floor pm_check_floor cd_check_floor ct_check_floor : Value}
    {f_open_grounds : Addr} {od_open_grounds an_open_grounds : Option Addr} {sl_open_grounds : Array (Option Value)} {oc_open_grounds kV_open_grounds dc_open_grounds pm_open_grounds cd_open_grounds ct_open_grounds : Value}
    {f_Floor_init : Addr} {od_Floor_init an_Floor_init : Option Addr} {sl_Floor_init : Array (Option Value)} {oc_Floor_init kV_Floor_init dc_Floor_init pm_Floor_init cd_Floor_init ct_Floor_init : Value}
    {f_law_said : Addr} {od_law_said an_law_said : Option Addr} {sl_law_said : Array (Option Value)} {oc_law_said kV_law_said dc_law_said pm_law_said cd_law_said ct_law_said : Value}
    {f_law_spoilt : Addr} {od_law_spoilt an_law_spoilt : Option Addr} {sl_law_spoilt : Array (Option Value)} {oc_law_spoilt kV_law_spoilt dc_law_spoilt pm_law_spoilt cd_law_spoilt ct_law_spoilt : Value}
    {f_law : Addr} {od_law an_law : Option Addr} {sl_law : Array (Option Value)} {oc_law kV_law dc_law pm_law cd_law ct_law : Value}
    {C_DustError : Addr}
    {C_BadFloor : Addr}
    {C_TooMany : Addr}
    {C_Clash : Addr}
    {C_NoDock : Addr}
    {C_NoRow : Addr}
    {C_NoText : Addr}
    {t_MOST_GROUNDS : Tok}
    (aC_Floor : PySem.W.nsIn K mainGlobals "Floor" = some (some (.ref C_Floor)))
    (a_law_cell_at : PySem.W.nsIn K mainGlobals "_law_cell_at" = some (some (.ref f_law_cell_at)))
    (l_law_cell_at : K.lookup f_law_cell_at = some ⟨oc_law_cell_at, od_law_cell_at, .func (PySem.W.fnOf "_law_cell_at" "_law_cell_at" (defArgs s_law_cell_at) (defBody s_law_cell_at) (defScope s_law_cell_at) .none kV_law_cell_at dc_law_cell_at pm_law_cell_at an_law_cell_at cd_law_cell_at ct_law_cell_at), sl_law_cell_at⟩)
    (c_law_cell_at : PySem.W.codeIn K cd_law_cell_at "_law_cell_at" = true)
    (k_law_cell_at : PySem.W.keepIn K (.ref f_law_cell_at) = true)
    (a_law_kept : PySem.W.nsIn K mainGlobals "_law_kept" = some (some (.ref f_law_kept)))
    (l_law_kept : K.lookup f_law_kept = some ⟨oc_law_kept, od_law_kept, .func (PySem.W.fnOf "_law_kept" "_law_kept" (defArgs s_law_kept) (defBody s_law_kept) (defScope s_law_kept) .none kV_law_kept dc_law_kept pm_law_kept an_law_kept cd_law_kept ct_law_kept), sl_law_kept⟩)
    (c_law_kept : PySem.W.codeIn K cd_law_kept "_law_kept" = true)
    (k_law_kept : PySem.W.keepIn K (.ref f_law_kept) = true)
    (a_law_no_ground : PySem.W.nsIn K mainGlobals "_law_no_ground" = some (some (.ref f_law_no_ground)))
    (l_law_no_ground : K.lookup f_law_no_ground = some ⟨oc_law_no_ground, od_law_no_ground, .func (PySem.W.fnOf "_law_no_ground" "_law_no_ground" (defArgs s_law_no_ground) (defBody s_law_no_ground) (defScope s_law_no_ground) .none kV_law_no_ground dc_law_no_ground pm_law_no_ground an_law_no_ground cd_law_no_ground ct_law_no_ground), sl_law_no_ground⟩)
    (c_law_no_ground : PySem.W.codeIn K cd_law_no_ground "_law_no_ground" = true)
    (k_law_no_ground : PySem.W.keepIn K (.ref f_law_no_ground) = true)
    (a_law_rows : PySem.W.nsIn K mainGlobals "_law_rows" = some (some (.ref f_law_rows)))
    (l_law_rows : K.lookup f_law_rows = some ⟨oc_law_rows, od_law_rows, .func (PySem.W.fnOf "_law_rows" "_law_rows" (defArgs s_law_rows) (defBody s_law_rows) (defScope s_law_rows) .none kV_law_rows dc_law_rows pm_law_rows an_law_rows cd_law_rows ct_law_rows), sl_law_rows⟩)
    (c_law_rows : PySem.W.codeIn K cd_law_rows "_law_rows" = true)
    (k_law_rows : PySem.W.keepIn K (.ref f_law_rows) = true)
    (a_is_whole : PySem.W.nsIn K mainGlobals "is_whole" = some (some (.ref f_is_whole)))
    (l_is_whole : K.lookup f_is_whole = some ⟨oc_is_whole, od_is_whole, .func (PySem.W.fnOf "is_whole" "is_whole" (defArgs s_is_whole) (defBody s_is_whole) (defScope s_is_whole) .none kV_is_whole dc_is_whole pm_is_whole an_is_whole cd_is_whole ct_is_whole), sl_is_whole⟩)
    (c_is_whole : PySem.W.codeIn K cd_is_whole "is_whole" = true)
    (k_is_whole : PySem.W.keepIn K (.ref f_is_whole) = true)
    (a_is_whole_pair : PySem.W.nsIn K mainGlobals "is_whole_pair" = some (some (.ref f_is_whole_pair)))
    (l_is_whole_pair : K.lookup f_is_whole_pair = some ⟨oc_is_whole_pair, od_is_whole_pair, .func (PySem.W.fnOf "is_whole_pair" "is_whole_pair" (defArgs s_is_whole_pair) (defBody s_is_whole_pair) (defScope s_is_whole_pair) .none kV_is_whole_pair dc_is_whole_pair pm_is_whole_pair an_is_whole_pair cd_is_whole_pair ct_is_whole_pair), sl_is_whole_pair⟩)
    (c_is_whole_pair : PySem.W.codeIn K cd_is_whole_pair "is_whole_pair" = true)
    (k_is_whole_pair : PySem.W.keepIn K (.ref f_is_whole_pair) = true)
    (a_check_dock : PySem.W.nsIn K mainGlobals "check_dock" = some (some (.ref f_check_dock)))
    (l_check_dock : K.lookup f_check_dock = some ⟨oc_check_dock, od_check_dock, .func (PySem.W.fnOf "check_dock" "check_dock" (defArgs s_check_dock) (defBody s_check_dock) (defScope s_check_dock) .none kV_check_dock dc_check_dock pm_check_dock an_check_dock cd_check_dock ct_check_dock), sl_check_dock⟩)
    (c_check_dock : PySem.W.codeIn K cd_check_dock "check_dock" = true)
    (k_check_dock : PySem.W.keepIn K (.ref f_check_dock) = true)
    (a_is_ground : PySem.W.nsIn K mainGlobals "is_ground" = some (some (.ref f_is_ground)))
    (l_is_ground : K.lookup f_is_ground = some ⟨oc_is_ground, od_is_ground, .func (PySem.W.fnOf "is_ground" "is_ground" (defArgs s_is_ground) (defBody s_is_ground) (defScope s_is_ground) .none kV_is_ground dc_is_ground pm_is_ground an_is_ground cd_is_ground ct_is_ground), sl_is_ground⟩)
    (c_is_ground : PySem.W.codeIn K cd_is_ground "is_ground" = true)
    (k_is_ground : PySem.W.keepIn K (.ref f_is_ground) = true)
    (a_check_grounds : PySem.W.nsIn K mainGlobals "check_grounds" = some (some (.ref f_check_grounds)))
    (l_check_grounds : K.lookup f_check_grounds = some ⟨oc_check_grounds, od_check_grounds, .func (PySem.W.fnOf "check_grounds" "check_grounds" (defArgs s_check_grounds) (defBody s_check_grounds) (defScope s_check_grounds) .none kV_check_grounds dc_check_grounds pm_check_grounds an_check_grounds cd_check_grounds ct_check_grounds), sl_check_grounds⟩)
    (c_check_grounds : PySem.W.codeIn K cd_check_grounds "check_grounds" = true)
    (k_check_grounds : PySem.W.keepIn K (.ref f_check_grounds) = true)
    (a_check_rows : PySem.W.nsIn K mainGlobals "check_rows" = some (some (.ref f_check_rows)))
    (l_check_rows : K.lookup f_check_rows = some ⟨oc_check_rows, od_check_rows, .func (PySem.W.fnOf "check_rows" "check_rows" (defArgs s_check_rows) (defBody s_check_rows) (defScope s_check_rows) .none kV_check_rows dc_check_rows pm_check_rows an_check_rows cd_check_rows ct_check_rows), sl_check_rows⟩)
    (c_check_rows : PySem.W.codeIn K cd_check_rows "check_rows" = true)
    (k_check_rows : PySem.W.keepIn K (.ref f_check_rows) = true)
    (a_check_floor : PySem.W.nsIn K mainGlobals "check_floor" = some (some (.ref f_check_floor)))
    (l_check_floor : K.lookup f_check_floor = some ⟨oc_check_floor, od_check_floor, .func (PySem.W.fnOf "check_floor" "check_floor" (defArgs s_check_floor) (defBody s_check_floor) (defScope s_check_floor) .none kV_check_floor dc_check_floor pm_check_floor an_check_floor cd_check_floor ct_check_floor), sl_check_floor⟩)
    (c_check_floor : PySem.W.codeIn K cd_check_floor "check_floor" = true)
    (k_check_floor : PySem.W.keepIn K (.ref f_check_floor) = true)
    (a_open_grounds : PySem.W.nsIn K mainGlobals "open_grounds" = some (some (.ref f_open_grounds)))
    (l_open_grounds : K.lookup f_open_grounds = some ⟨oc_open_grounds, od_open_grounds, .func (PySem.W.fnOf "open_grounds" "open_grounds" (defArgs s_open_grounds) (defBody s_open_grounds) (defScope s_open_grounds) .none kV_open_grounds dc_open_grounds pm_open_grounds an_open_grounds cd_open_grounds ct_open_grounds), sl_open_grounds⟩)
    (c_open_grounds : PySem.W.codeIn K cd_open_grounds "open_grounds" = true)
    (k_open_grounds : PySem.W.keepIn K (.ref f_open_grounds) = true)
    (a_Floor_init : PySem.W.findIn K (.ref C_Floor) "__init__" = some (some (.ref f_Floor_init)))
    (i_Floor_init : PySem.W.isFn K (.ref f_Floor_init) = true)
    (l_Floor_init : K.lookup f_Floor_init = some ⟨oc_Floor_init, od_Floor_init, .func (PySem.W.fnOf "__init__" "Floor.__init__" (defArgs s_Floor_init) (defBody s_Floor_init) (defScope s_Floor_init) .none kV_Floor_init dc_Floor_init pm_Floor_init an_Floor_init cd_Floor_init ct_Floor_init), sl_Floor_init⟩)
    (c_Floor_init : PySem.W.codeIn K cd_Floor_init "Floor.__init__" = true)
    (k_Floor_init : PySem.W.keepIn K (.ref f_Floor_init) = true)
    (a_law_said : PySem.W.nsIn K mainGlobals "_law_said" = some (some (.ref f_law_said)))
    (l_law_said : K.lookup f_law_said = some ⟨oc_law_said, od_law_said, .func (PySem.W.fnOf "_law_said" "_law_said" (defArgs s_law_said) (defBody s_law_said) (defScope s_law_said) .none kV_law_said dc_law_said pm_law_said an_law_said cd_law_said ct_law_said), sl_law_said⟩)
    (c_law_said : PySem.W.codeIn K cd_law_said "_law_said" = true)
    (k_law_said : PySem.W.keepIn K (.ref f_law_said) = true)
    (a_law_spoilt : PySem.W.nsIn K mainGlobals "_law_spoilt" = some (some (.ref f_law_spoilt)))
    (l_law_spoilt : K.lookup f_law_spoilt = some ⟨oc_law_spoilt, od_law_spoilt, .func (PySem.W.fnOf "_law_spoilt" "_law_spoilt" (defArgs s_law_spoilt) (defBody s_law_spoilt) (defScope s_law_spoilt) .none kV_law_spoilt dc_law_spoilt pm_law_spoilt an_law_spoilt cd_law_spoilt ct_law_spoilt), sl_law_spoilt⟩)
    (c_law_spoilt : PySem.W.codeIn K cd_law_spoilt "_law_spoilt" = true)
    (k_law_spoilt : PySem.W.keepIn K (.ref f_law_spoilt) = true)
    (a_law : PySem.W.nsIn K mainGlobals "law" = some (some (.ref f_law)))
    (l_law : K.lookup f_law = some ⟨oc_law, od_law, .func (PySem.W.fnOf "law" "law" (defArgs s_law) (defBody s_law) (defScope s_law) .none kV_law dc_law pm_law an_law cd_law ct_law), sl_law⟩)
    (c_law : PySem.W.codeIn K cd_law "law" = true)
    (k_law : PySem.W.keepIn K (.ref f_law) = true)
    (aC_DustError : PySem.W.nsIn K mainGlobals "DustError" = some (some (.ref C_DustError)))
    (xc_DustError : XCls K C_DustError)
    (aC_BadFloor : PySem.W.nsIn K mainGlobals "BadFloor" = some (some (.ref C_BadFloor)))
    (xc_BadFloor : XCls K C_BadFloor)
    (aC_TooMany : PySem.W.nsIn K mainGlobals "TooMany" = some (some (.ref C_TooMany)))
    (xc_TooMany : XCls K C_TooMany)
    (aC_Clash : PySem.W.nsIn K mainGlobals "Clash" = some (some (.ref C_Clash)))
    (aC_NoDock : PySem.W.nsIn K mainGlobals "NoDock" = some (some (.ref C_NoDock)))
    (xc_NoDock : XCls K C_NoDock)
    (aC_NoRow : PySem.W.nsIn K mainGlobals "NoRow" = some (some (.ref C_NoRow)))
    (xc_NoRow : XCls K C_NoRow)
    (aC_NoText : PySem.W.nsIn K mainGlobals "NoText" = some (some (.ref C_NoText)))
    (xc_NoText : XCls K C_NoText)
    (xi_n : PySem.W.specialIn K (.builtin "object.__class__") "__get__" = some (some (.builtin "getset_descriptor.__get__")))
    (xi_t : PySem.W.takesIn K (.builtin "object.__class__") = some true)
    (xg_BadFloor : PySem.W.findIn K (.ref C_BadFloor) "__getattribute__" = some (some (.builtin "BaseException.__getattribute__")))
    (xn_BadFloor : PySem.W.findIn K (.ref C_BadFloor) "__getattr__" = some none)
    (xa_BadFloor : PySem.W.findIn K (.ref C_BadFloor) "__class__" = some (some (.builtin "object.__class__")))
    (xm_BadFloor : PySem.W.mroIn K C_BadFloor (.type "object") = some true)
    (xb_BadFloor : PySem.W.mroIn K C_BadFloor (.type "BaseException") = some true)
    (kv_BadFloor : PySem.W.kitOne K (.ref C_BadFloor) (.type "ValueError") = some true)
    (ki_BadFloor_DustError : PySem.W.kitOne K (.ref C_BadFloor) (.ref C_DustError) = some true)
    (mr_BadFloor_DustError : PySem.W.mroIn K C_BadFloor (.ref C_DustError) = some true)
    (ki_BadFloor_BadFloor : PySem.W.kitOne K (.ref C_BadFloor) (.ref C_BadFloor) = some true)
    (mr_BadFloor_BadFloor : PySem.W.mroIn K C_BadFloor (.ref C_BadFloor) = some true)
    (ki_BadFloor_TooMany : PySem.W.kitOne K (.ref C_BadFloor) (.ref C_TooMany) = some false)
    (mr_BadFloor_TooMany : PySem.W.mroIn K C_BadFloor (.ref C_TooMany) = some false)
    (ki_BadFloor_Clash : PySem.W.kitOne K (.ref C_BadFloor) (.ref C_Clash) = some false)
    (mr_BadFloor_Clash : PySem.W.mroIn K C_BadFloor (.ref C_Clash) = some false)
    (ki_BadFloor_NoDock : PySem.W.kitOne K (.ref C_BadFloor) (.ref C_NoDock) = some false)
    (mr_BadFloor_NoDock : PySem.W.mroIn K C_BadFloor (.ref C_NoDock) = some false)
    (ki_BadFloor_NoRow : PySem.W.kitOne K (.ref C_BadFloor) (.ref C_NoRow) = some false)
    (mr_BadFloor_NoRow : PySem.W.mroIn K C_BadFloor (.ref C_NoRow) = some false)
    (ki_BadFloor_NoText : PySem.W.kitOne K (.ref C_BadFloor) (.ref C_NoText) = some false)
    (mr_BadFloor_NoText : PySem.W.mroIn K C_BadFloor (.ref C_NoText) = some false)
    (xg_TooMany : PySem.W.findIn K (.ref C_TooMany) "__getattribute__" = some (some (.builtin "BaseException.__getattribute__")))
    (xn_TooMany : PySem.W.findIn K (.ref C_TooMany) "__getattr__" = some none)
    (xa_TooMany : PySem.W.findIn K (.ref C_TooMany) "__class__" = some (some (.builtin "object.__class__")))
    (xm_TooMany : PySem.W.mroIn K C_TooMany (.type "object") = some true)
    (xb_TooMany : PySem.W.mroIn K C_TooMany (.type "BaseException") = some true)
    (kv_TooMany : PySem.W.kitOne K (.ref C_TooMany) (.type "ValueError") = some true)
    (ki_TooMany_DustError : PySem.W.kitOne K (.ref C_TooMany) (.ref C_DustError) = some true)
    (mr_TooMany_DustError : PySem.W.mroIn K C_TooMany (.ref C_DustError) = some true)
    (ki_TooMany_BadFloor : PySem.W.kitOne K (.ref C_TooMany) (.ref C_BadFloor) = some false)
    (mr_TooMany_BadFloor : PySem.W.mroIn K C_TooMany (.ref C_BadFloor) = some false)
    (ki_TooMany_TooMany : PySem.W.kitOne K (.ref C_TooMany) (.ref C_TooMany) = some true)
    (mr_TooMany_TooMany : PySem.W.mroIn K C_TooMany (.ref C_TooMany) = some true)
    (ki_TooMany_Clash : PySem.W.kitOne K (.ref C_TooMany) (.ref C_Clash) = some false)
    (mr_TooMany_Clash : PySem.W.mroIn K C_TooMany (.ref C_Clash) = some false)
    (ki_TooMany_NoDock : PySem.W.kitOne K (.ref C_TooMany) (.ref C_NoDock) = some false)
    (mr_TooMany_NoDock : PySem.W.mroIn K C_TooMany (.ref C_NoDock) = some false)
    (ki_TooMany_NoRow : PySem.W.kitOne K (.ref C_TooMany) (.ref C_NoRow) = some false)
    (mr_TooMany_NoRow : PySem.W.mroIn K C_TooMany (.ref C_NoRow) = some false)
    (ki_TooMany_NoText : PySem.W.kitOne K (.ref C_TooMany) (.ref C_NoText) = some false)
    (mr_TooMany_NoText : PySem.W.mroIn K C_TooMany (.ref C_NoText) = some false)
    (pg_Floor : PySem.W.plainGet K C_Floor Str.empty = true)
    (hd_Floor : PySem.W.hasDictIn K C_Floor = true)
    (po_Floor : PySem.W.plainOver K C_Floor = true)
    (sa_Floor : PySem.W.findIn K (.ref C_Floor) "__setattr__" = some (some (.builtin "object.__setattr__")))
    (mk_Floor : PySem.W.makesIn K C_Floor = true)
    (kc_Floor : PySem.W.keepIn K (.ref C_Floor) = true)
    (n_Floor_dock_place : PySem.W.findIn K (.ref C_Floor) "dock_place" = some none)
    (n_Floor_grounds : PySem.W.findIn K (.ref C_Floor) "grounds" = some none)
    (n_Floor_row_lists : PySem.W.findIn K (.ref C_Floor) "row_lists" = some none)
    (z_ValueError : PySem.W.nsIn K mainGlobals "ValueError" = some none)
    (z_bool : PySem.W.nsIn K mainGlobals "bool" = some none)
    (z_enumerate : PySem.W.nsIn K mainGlobals "enumerate" = some none)
    (z_int : PySem.W.nsIn K mainGlobals "int" = some none)
    (z_isinstance : PySem.W.nsIn K mainGlobals "isinstance" = some none)
    (z_len : PySem.W.nsIn K mainGlobals "len" = some none)
    (z_list : PySem.W.nsIn K mainGlobals "list" = some none)
    (z_range : PySem.W.nsIn K mainGlobals "range" = some none)
    (z_tuple : PySem.W.nsIn K mainGlobals "tuple" = some none)
    (m_MOST_GROUNDS : PySem.W.nsIn K mainGlobals "MOST_GROUNDS" = some (some (.int 2500 t_MOST_GROUNDS))) :
    ∃ fd : FuncData, (∀ (s : Shared) (v : Value), BindsTo s fd ⟨[v], []⟩ [("_law_script", v)]) ∧ ∀ base : Heap, K.In base → base.Ns mainGlobals mg → FnOk l.prog w K mg base CX0 10 fa fd ["_law_script"] (lowSp K sp_law0) := by
  have e : f_law = fa := by
    have e := (PySem.W.mg_of X G a_law).symm.trans hfa
    injection e with e
    injection e
  subst e
  have F_law_cell_at := fun_mk (st := s_law_cell_at) l_law_cell_at c_law_cell_at k_law_cell_at
  have b_law_cell_at := F_law_cell_at.binds (ps := ["_law_script", "_law_k"]) fun _ _ _ _ _ _ us hl => match us, hl with | [_, _], _ => rfl
  have F_law_kept := fun_mk (st := s_law_kept) l_law_kept c_law_kept k_law_kept
  have b_law_kept := F_law_kept.binds (ps := ["_law_rows_here"]) fun _ _ _ _ _ _ us hl => match us, hl with | [_], _ => rfl
  have F_law_no_ground := fun_mk (st := s_law_no_ground) l_law_no_ground c_law_no_ground k_law_no_ground
  have b_law_no_ground := F_law_no_ground.binds (ps := ["_law_cell"]) fun _ _ _ _ _ _ us hl => match us, hl with | [_], _ => rfl
  have F_law_rows := fun_mk (st := s_law_rows) l_law_rows c_law_rows k_law_rows
  have b_law_rows := F_law_rows.binds (ps := ["_law_cell", "_law_many", "_law_wide"]) fun _ _ _ _ _ _ us hl => match us, hl with | [_, _, _], _ => rfl
  have F_is_whole := fun_mk (st := s_is_whole) l_is_whole c_is_whole k_is_whole
  have b_is_whole := F_is_whole.binds (ps := ["thing"]) fun _ _ _ _ _ _ us hl => match us, hl with | [_], _ => rfl
  have F_is_whole_pair := fun_mk (st := s_is_whole_pair) l_is_whole_pair c_is_whole_pair k_is_whole_pair
  have b_is_whole_pair := F_is_whole_pair.binds (ps := ["thing"]) fun _ _ _ _ _ _ us hl => match us, hl with | [_], _ => rfl
  have F_check_dock := fun_mk (st := s_check_dock) l_check_dock c_check_dock k_check_dock
  have b_check_dock := F_check_dock.binds (ps := ["rows", "dock"]) fun _ _ _ _ _ _ us hl => match us, hl with | [_, _], _ => rfl
  have F_is_ground := fun_mk (st := s_is_ground) l_is_ground c_is_ground k_is_ground
  have b_is_ground := F_is_ground.binds (ps := ["thing"]) fun _ _ _ _ _ _ us hl => match us, hl with | [_], _ => rfl
  have F_check_grounds := fun_mk (st := s_check_grounds) l_check_grounds c_check_grounds k_check_grounds
  have b_check_grounds := F_check_grounds.binds (ps := ["rows"]) fun _ _ _ _ _ _ us hl => match us, hl with | [_], _ => rfl
  have F_check_rows := fun_mk (st := s_check_rows) l_check_rows c_check_rows k_check_rows
  have b_check_rows := F_check_rows.binds (ps := ["rows"]) fun _ _ _ _ _ _ us hl => match us, hl with | [_], _ => rfl
  have F_check_floor := fun_mk (st := s_check_floor) l_check_floor c_check_floor k_check_floor
  have b_check_floor := F_check_floor.binds (ps := ["rows", "dock"]) fun _ _ _ _ _ _ us hl => match us, hl with | [_, _], _ => rfl
  have F_open_grounds := fun_mk (st := s_open_grounds) l_open_grounds c_open_grounds k_open_grounds
  have b_open_grounds := F_open_grounds.binds (ps := ["rows", "dock"]) fun _ _ _ _ _ _ us hl => match us, hl with | [_, _], _ => rfl
  have F_Floor_init := fun_mk (st := s_Floor_init) l_Floor_init c_Floor_init k_Floor_init
  have b_Floor_init := F_Floor_init.binds (ps := ["self", "rows", "dock"]) fun _ _ _ _ _ _ us hl => match us, hl with | [_, _, _], _ => rfl
  have F_law_said := fun_mk (st := s_law_said) l_law_said c_law_said k_law_said
  have b_law_said := F_law_said.binds (ps := ["_law_rows_here", "_law_dock"]) fun _ _ _ _ _ _ us hl => match us, hl with | [_, _], _ => rfl
  have F_law_spoilt := fun_mk (st := s_law_spoilt) l_law_spoilt c_law_spoilt k_law_spoilt
  have b_law_spoilt := F_law_spoilt.binds (ps := ["_law_rows_here", "_law_dock", "_law_cell"]) fun _ _ _ _ _ _ us hl => match us, hl with | [_, _, _], _ => rfl
  have F_law := fun_mk (st := s_law) l_law c_law k_law
  have b_law := F_law.binds (ps := ["_law_script"]) fun _ _ _ _ _ _ us hl => match us, hl with | [_], _ => rfl
  let A : Adr := { f_law_cell_at := f_law_cell_at, d_law_cell_at := PySem.W.fnOf "_law_cell_at" "_law_cell_at" (defArgs s_law_cell_at) (defBody s_law_cell_at) (defScope s_law_cell_at) .none kV_law_cell_at dc_law_cell_at pm_law_cell_at an_law_cell_at cd_law_cell_at ct_law_cell_at, f_law_kept := f_law_kept, d_law_kept := PySem.W.fnOf "_law_kept" "_law_kept" (defArgs s_law_kept) (defBody s_law_kept) (defScope s_law_kept) .none kV_law_kept dc_law_kept pm_law_kept an_law_kept cd_law_kept ct_law_kept, f_law_no_ground := f_law_no_ground, d_law_no_ground := PySem.W.fnOf "_law_no_ground" "_law_no_ground" (defArgs s_law_no_ground) (defBody s_law_no_ground) (defScope s_law_no_ground) .none kV_law_no_ground dc_law_no_ground pm_law_no_ground an_law_no_ground cd_law_no_ground ct_law_no_ground, f_law_rows := f_law_rows, d_law_rows := PySem.W.fnOf "_law_rows" "_law_rows" (defArgs s_law_rows) (defBody s_law_rows) (defScope s_law_rows) .none kV_law_rows dc_law_rows pm_law_rows an_law_rows cd_law_rows ct_law_rows, f_is_whole := f_is_whole, d_is_whole := PySem.W.fnOf "is_whole" "is_whole" (defArgs s_is_whole) (defBody s_is_whole) (defScope s_is_whole) .none kV_is_whole dc_is_whole pm_is_whole an_is_whole cd_is_whole ct_is_whole, f_is_whole_pair := f_is_whole_pair, d_is_whole_pair := PySem.W.fnOf "is_whole_pair" "is_whole_pair" (defArgs s_is_whole_pair) (defBody s_is_whole_pair) (defScope s_is_whole_pair) .none kV_is_whole_pair dc_is_whole_pair pm_is_whole_pair an_is_whole_pair cd_is_whole_pair ct_is_whole_pair, f_check_dock := f_check_dock, d_check_dock := PySem.W.fnOf "check_dock" "check_dock" (defArgs s_check_dock) (defBody s_check_dock) (defScope s_check_dock) .none kV_check_dock dc_check_dock pm_check_dock an_check_dock cd_check_dock ct_check_dock, f_is_ground := f_is_ground, d_is_ground := PySem.W.fnOf "is_ground" "is_ground" (defArgs s_is_ground) (defBody s_is_ground) (defScope s_is_ground) .none kV_is_ground dc_is_ground pm_is_ground an_is_ground cd_is_ground ct_is_ground, f_check_grounds := f_check_grounds, d_check_grounds := PySem.W.fnOf "check_grounds" "check_grounds" (defArgs s_check_grounds) (defBody s_check_grounds) (defScope s_check_grounds) .none kV_check_grounds dc_check_grounds pm_check_grounds an_check_grounds cd_check_grounds ct_check_grounds, f_check_rows := f_check_rows, d_check_rows := PySem.W.fnOf "check_rows" "check_rows" (defArgs s_check_rows) (defBody s_check_rows) (defScope s_check_rows) .none kV_check_rows dc_check_rows pm_check_rows an_check_rows cd_check_rows ct_check_rows, f_check_floor := f_check_floor, d_check_floor := PySem.W.fnOf "check_floor" "check_floor" (defArgs s_check_floor) (defBody s_check_floor) (defScope s_check_floor) .none kV_check_floor dc_check_floor pm_check_floor an_check_floor cd_check_floor ct_check_floor, f_open_grounds := f_open_grounds, d_open_grounds := PySem.W.fnOf "open_grounds" "open_grounds" (defArgs s_open_grounds) (defBody s_open_grounds) (defScope s_open_grounds) .none kV_open_grounds dc_open_grounds pm_open_grounds an_open_grounds cd_open_grounds ct_open_grounds, f_Floor_init := f_Floor_init, d_Floor_init := PySem.W.fnOf "__init__" "Floor.__init__" (defArgs s_Floor_init) (defBody s_Floor_init) (defScope s_Floor_init) .none kV_Floor_init dc_Floor_init pm_Floor_init an_Floor_init cd_Floor_init ct_Floor_init, f_law_said := f_law_said, d_law_said := PySem.W.fnOf "_law_said" "_law_said" (defArgs s_law_said) (defBody s_law_said) (defScope s_law_said) .none kV_law_said dc_law_said pm_law_said an_law_said cd_law_said ct_law_said, f_law_spoilt := f_law_spoilt, d_law_spoilt := PySem.W.fnOf "_law_spoilt" "_law_spoilt" (defArgs s_law_spoilt) (defBody s_law_spoilt) (defScope s_law_spoilt) .none kV_law_spoilt dc_law_spoilt pm_law_spoilt an_law_spoilt cd_law_spoilt ct_law_spoilt, f_law := f_law, d_law := PySem.W.fnOf "law" "law" (defArgs s_law) (defBody s_law) (defScope s_law) .none kV_law dc_law pm_law an_law cd_law ct_law, c_Floor := C_Floor, c_DustError := C_DustError, c_BadFloor := C_BadFloor, c_TooMany := C_TooMany, c_Clash := C_Clash, c_NoDock := C_NoDock, c_NoRow := C_NoRow, c_NoText := C_NoText, t_MOST_GROUNDS := t_MOST_GROUNDS }
  have T : Txt K w mg A := ⟨F_law_cell_at,
    b_law_cell_at,
    k_law_cell_at,
    PySem.W.mg_of X G a_law_cell_at,
    F_law_kept,
    b_law_kept,
    k_law_kept,
    PySem.W.mg_of X G a_law_kept,
    F_law_no_ground,
    b_law_no_ground,
    k_law_no_ground,
    PySem.W.mg_of X G a_law_no_ground,
    F_law_rows,
    b_law_rows,
    k_law_rows,
    PySem.W.mg_of X G a_law_rows,
    F_is_whole,
    b_is_whole,
    k_is_whole,
    PySem.W.mg_of X G a_is_whole,
    F_is_whole_pair,
    b_is_whole_pair,
    k_is_whole_pair,
    PySem.W.mg_of X G a_is_whole_pair,
    F_check_dock,
    b_check_dock,
    k_check_dock,
    PySem.W.mg_of X G a_check_dock,
    F_is_ground,
    b_is_ground,
    k_is_ground,
    PySem.W.mg_of X G a_is_ground,
    F_check_grounds,
    b_check_grounds,
    k_check_grounds,
    PySem.W.mg_of X G a_check_grounds,
    F_check_rows,
    b_check_rows,
    k_check_rows,
    PySem.W.mg_of X G a_check_rows,
    F_check_floor,
    b_check_floor,
    k_check_floor,
    PySem.W.mg_of X G a_check_floor,
    F_open_grounds,
    b_open_grounds,
    k_open_grounds,
    PySem.W.mg_of X G a_open_grounds,
    F_Floor_init,
    b_Floor_init,
    k_Floor_init,
    ⟨mk_Floor, a_Floor_init, i_Floor_init, kc_Floor⟩,
    F_law_said,
    b_law_said,
    k_law_said,
    PySem.W.mg_of X G a_law_said,
    F_law_spoilt,
    b_law_spoilt,
    k_law_spoilt,
    PySem.W.mg_of X G a_law_spoilt,
    F_law,
    b_law,
    k_law,
    PySem.W.mg_of X G a_law,
    ⟨pg_Floor, hd_Floor, po_Floor, sa_Floor⟩,
    PySem.W.mg_of X G aC_Floor,
    n_Floor_dock_place,
    n_Floor_grounds,
    n_Floor_row_lists,
    PySem.W.mg_of X G aC_DustError,
    xc_DustError,
    PySem.W.mg_of X G aC_BadFloor,
    xc_BadFloor,
    PySem.W.mg_of X G aC_TooMany,
    xc_TooMany,
    PySem.W.mg_of X G aC_Clash,
    PySem.W.mg_of X G aC_NoDock,
    xc_NoDock,
    PySem.W.mg_of X G aC_NoRow,
    xc_NoRow,
    PySem.W.mg_of X G aC_NoText,
    xc_NoText,
    ⟨xg_BadFloor, xn_BadFloor, xa_BadFloor, xi_n, xi_t, xm_BadFloor, xb_BadFloor⟩,
    kv_BadFloor,
    ki_BadFloor_DustError,
    mr_BadFloor_DustError,
    ki_BadFloor_BadFloor,
    mr_BadFloor_BadFloor,
    ki_BadFloor_TooMany,
    mr_BadFloor_TooMany,
    ki_BadFloor_Clash,
    mr_BadFloor_Clash,
    ki_BadFloor_NoDock,
    mr_BadFloor_NoDock,
    ki_BadFloor_NoRow,
    mr_BadFloor_NoRow,
    ki_BadFloor_NoText,
    mr_BadFloor_NoText,
    ⟨xg_TooMany, xn_TooMany, xa_TooMany, xi_n, xi_t, xm_TooMany, xb_TooMany⟩,
    kv_TooMany,
    ki_TooMany_DustError,
    mr_TooMany_DustError,
    ki_TooMany_BadFloor,
    mr_TooMany_BadFloor,
    ki_TooMany_TooMany,
    mr_TooMany_TooMany,
    ki_TooMany_Clash,
    mr_TooMany_Clash,
    ki_TooMany_NoDock,
    mr_TooMany_NoDock,
    ki_TooMany_NoRow,
    mr_TooMany_NoRow,
    ki_TooMany_NoText,
    mr_TooMany_NoText,
    PySem.W.mg_none_of X G z_ValueError,
    PySem.W.mg_none_of X G z_bool,
    PySem.W.mg_none_of X G z_enumerate,
    PySem.W.mg_none_of X G z_int,
    PySem.W.mg_none_of X G z_isinstance,
    PySem.W.mg_none_of X G z_len,
    PySem.W.mg_none_of X G z_list,
    PySem.W.mg_none_of X G z_range,
    PySem.W.mg_none_of X G z_tuple,
    PySem.W.mg_of X G m_MOST_GROUNDS⟩
  exact ⟨_, fun s v => .of_eq rfl, fun base _ _ => ok_all T⟩
end My
open PySem PySem.W PyProof.Rows
set_option maxRecDepth 100000 in
set_option maxHeartbeats 0 in
theorem PySem.Challenge.cw_dustwalk_k03_floors_refused_holds : PySem.Challenge.rw_dustwalk_k03_floors_refused.Holds := by
  w_on; o_law; k_head; (case hw => w_witness2)
  k_fill
  refine L2.walk_ofK (l := PySem.Challenge.rw_dustwalk_k03_floors_refused) (n := 63) (k := 10) (x := "_law_script") (CX := L2.CX0) (sp := fun K => L3.lowSp K My.sp_law0) rfl (by decide) rfl ⟨rfl, by decide, by decide⟩ (fun w h Y => PySem.W.kIn_of Y) ?F ?S ?C
  case F =>
    intro w mg fa h KX G hmg
    refine' My.all_mk KX G hmg ?aC_Floor ?a_law_cell_at ?l_law_cell_at ?c_law_cell_at ?k_law_cell_at ?a_law_kept ?l_law_kept ?c_law_kept ?k_law_kept ?a_law_no_ground ?l_law_no_ground ?c_law_no_ground ?k_law_no_ground ?a_law_rows ?l_law_rows ?c_law_rows ?k_law_rows ?a_is_whole ?l_is_whole ?c_is_whole ?k_is_whole ?a_is_whole_pair ?l_is_whole_pair ?c_is_whole_pair ?k_is_whole_pair ?a_check_dock ?l_check_dock ?c_check_dock ?k_check_dock ?a_is_ground ?l_is_ground ?c_is_ground ?k_is_ground ?a_check_grounds ?l_check_grounds ?c_check_grounds ?k_check_grounds ?a_check_rows ?l_check_rows ?c_check_rows ?k_check_rows ?a_check_floor ?l_check_floor ?c_check_floor ?k_check_floor ?a_open_grounds ?l_open_grounds ?c_open_grounds ?k_open_grounds ?a_Floor_init ?i_Floor_init ?l_Floor_init ?c_Floor_init ?k_Floor_init ?a_law_said ?l_law_said ?c_law_said ?k_law_said ?a_law_spoilt ?l_law_spoilt ?c_law_spoilt ?k_law_spoilt ?a_law ?l_law ?c_law ?k_law ?aC_DustError ?xc_DustError ?aC_BadFloor ?xc_BadFloor ?aC_TooMany ?xc_TooMany ?aC_Clash ?aC_NoDock ?xc_NoDock ?aC_NoRow ?xc_NoRow ?aC_NoText ?xc_NoText ?xi_n ?xi_t ?xg_BadFloor ?xn_BadFloor ?xa_BadFloor ?xm_BadFloor ?xb_BadFloor ?kv_BadFloor ?ki_BadFloor_DustError ?mr_BadFloor_DustError ?ki_BadFloor_BadFloor ?mr_BadFloor_BadFloor ?ki_BadFloor_TooMany ?mr_BadFloor_TooMany ?ki_BadFloor_Clash ?mr_BadFloor_Clash ?ki_BadFloor_NoDock ?mr_BadFloor_NoDock ?ki_BadFloor_NoRow ?mr_BadFloor_NoRow ?ki_BadFloor_NoText ?mr_BadFloor_NoText ?xg_TooMany ?xn_TooMany ?xa_TooMany ?xm_TooMany ?xb_TooMany ?kv_TooMany ?ki_TooMany_DustError ?mr_TooMany_DustError ?ki_TooMany_BadFloor ?mr_TooMany_BadFloor ?ki_TooMany_TooMany ?mr_TooMany_TooMany ?ki_TooMany_Clash ?mr_TooMany_Clash ?ki_TooMany_NoDock ?mr_TooMany_NoDock ?ki_TooMany_NoRow ?mr_TooMany_NoRow ?ki_TooMany_NoText ?mr_TooMany_NoText ?pg_Floor ?hd_Floor ?po_Floor ?sa_Floor ?mk_Floor ?kc_Floor ?n_Floor_dock_place ?n_Floor_grounds ?n_Floor_row_lists ?z_ValueError ?z_bool ?z_enumerate ?z_int ?z_isinstance ?z_len ?z_list ?z_range ?z_tuple ?m_MOST_GROUNDS
    (case aC_Floor => k_is)
    (case a_law_cell_at => k_is)
    (case l_law_cell_at => k_is)
    (case c_law_cell_at => k_is)
    (case k_law_cell_at => k_is)
    (case a_law_kept => k_is)
    (case l_law_kept => k_is)
    (case c_law_kept => k_is)
    (case k_law_kept => k_is)
    (case a_law_no_ground => k_is)
    (case l_law_no_ground => k_is)
    (case c_law_no_ground => k_is)
    (case k_law_no_ground => k_is)
    (case a_law_rows => k_is)
    (case l_law_rows => k_is)
    (case c_law_rows => k_is)
    (case k_law_rows => k_is)
    (case a_is_whole => k_is)
    (case l_is_whole => k_is)
    (case c_is_whole => k_is)
    (case k_is_whole => k_is)
    (case a_is_whole_pair => k_is)
    (case l_is_whole_pair => k_is)
    (case c_is_whole_pair => k_is)
    (case k_is_whole_pair => k_is)
    (case a_check_dock => k_is)
    (case l_check_dock => k_is)
    (case c_check_dock => k_is)
    (case k_check_dock => k_is)
    (case a_is_ground => k_is)
    (case l_is_ground => k_is)
    (case c_is_ground => k_is)
    (case k_is_ground => k_is)
    (case a_check_grounds => k_is)
    (case l_check_grounds => k_is)
    (case c_check_grounds => k_is)
    (case k_check_grounds => k_is)
    (case a_check_rows => k_is)
    (case l_check_rows => k_is)
    (case c_check_rows => k_is)
    (case k_check_rows => k_is)
    (case a_check_floor => k_is)
    (case l_check_floor => k_is)
    (case c_check_floor => k_is)
    (case k_check_floor => k_is)
    (case a_open_grounds => k_is)
    (case l_open_grounds => k_is)
    (case c_open_grounds => k_is)
    (case k_open_grounds => k_is)
    (case a_Floor_init => k_is)
    (case i_Floor_init => k_is)
    (case l_Floor_init => k_is)
    (case c_Floor_init => k_is)
    (case k_Floor_init => k_is)
    (case a_law_said => k_is)
    (case l_law_said => k_is)
    (case c_law_said => k_is)
    (case k_law_said => k_is)
    (case a_law_spoilt => k_is)
    (case l_law_spoilt => k_is)
    (case c_law_spoilt => k_is)
    (case k_law_spoilt => k_is)
    (case a_law => k_is)
    (case l_law => k_is)
    (case c_law => k_is)
    (case k_law => k_is)
    (case aC_DustError => k_is)
    (case xc_DustError => (unfold L3.XCls; k_exc))
    (case aC_BadFloor => k_is)
    (case xc_BadFloor => (unfold L3.XCls; k_exc))
    (case aC_TooMany => k_is)
    (case xc_TooMany => (unfold L3.XCls; k_exc))
    (case aC_Clash => k_is)
    (case aC_NoDock => k_is)
    (case xc_NoDock => (unfold L3.XCls; k_exc))
    (case aC_NoRow => k_is)
    (case xc_NoRow => (unfold L3.XCls; k_exc))
    (case aC_NoText => k_is)
    (case xc_NoText => (unfold L3.XCls; k_exc))
    (case xi_n => k_is)
    (case xi_t => k_is)
    (case xg_BadFloor => k_is)
    (case xn_BadFloor => k_is)
    (case xa_BadFloor => k_is)
    (case xm_BadFloor => k_is)
    (case xb_BadFloor => k_is)
    (case kv_BadFloor => kit_is)
    (case ki_BadFloor_DustError => kit_is)
    (case mr_BadFloor_DustError => k_is)
    (case ki_BadFloor_BadFloor => kit_is)
    (case mr_BadFloor_BadFloor => k_is)
    (case ki_BadFloor_TooMany => kit_is)
    (case mr_BadFloor_TooMany => k_is)
    (case ki_BadFloor_Clash => kit_is)
    (case mr_BadFloor_Clash => k_is)
    (case ki_BadFloor_NoDock => kit_is)
    (case mr_BadFloor_NoDock => k_is)
    (case ki_BadFloor_NoRow => kit_is)
    (case mr_BadFloor_NoRow => k_is)
    (case ki_BadFloor_NoText => kit_is)
    (case mr_BadFloor_NoText => k_is)
    (case xg_TooMany => k_is)
    (case xn_TooMany => k_is)
    (case xa_TooMany => k_is)
    (case xm_TooMany => k_is)
    (case xb_TooMany => k_is)
    (case kv_TooMany => kit_is)
    (case ki_TooMany_DustError => kit_is)
    (case mr_TooMany_DustError => k_is)
    (case ki_TooMany_BadFloor => kit_is)
    (case mr_TooMany_BadFloor => k_is)
    (case ki_TooMany_TooMany => kit_is)
    (case mr_TooMany_TooMany => k_is)
    (case ki_TooMany_Clash => kit_is)
    (case mr_TooMany_Clash => k_is)
    (case ki_TooMany_NoDock => kit_is)
    (case mr_TooMany_NoDock => k_is)
    (case ki_TooMany_NoRow => kit_is)
    (case mr_TooMany_NoRow => k_is)
    (case ki_TooMany_NoText => kit_is)
    (case mr_TooMany_NoText => k_is)
    (case pg_Floor => k_is)
    (case hd_Floor => k_is)
    (case po_Floor => k_is)
    (case sa_Floor => k_is)
    (case mk_Floor => k_is)
    (case kc_Floor => k_is)
    (case n_Floor_dock_place => k_is)
    (case n_Floor_grounds => k_is)
    (case n_Floor_row_lists => k_is)
    (case z_ValueError => k_is)
    (case z_bool => k_is)
    (case z_enumerate => k_is)
    (case z_int => k_is)
    (case z_isinstance => k_is)
    (case z_len => k_is)
    (case z_list => k_is)
    (case z_range => k_is)
    (case z_tuple => k_is)
    (case m_MOST_GROUNDS => k_is)
  case S => exact My.law_start
  case C => exact fun _ _ _ _ z => z
