import PyProof.Rows.All
import Wide.All
import OpenK.AllK
import Wide.FinOn
import PyProof.EqAt
import PyProof.EqKinds
import PyProof.TupleCall
import KE.BitLaws
import PyProof.FitsBits
import PyProof.Draws
import PySem.Challenge.RW_listmarks_k02_whole_texts_read
import KE.IntTextLaws
-- CHANGE: your row's module here, as the last of these rows
set_option Elab.async false
set_option linter.all false
set_option maxRecDepth 100000
/-! THE HAND LAYER, for ints, bools, texts, own classes, lists, tuples, dicts, comprehensions, walks over dicts, enumerate, zip, reversed, texts, calls, loops. Paste it whole ahead of your own text; what your proof does not reach may be deleted. -/
namespace L2
open PySem PySem.Spec PyProof.Rows

/-- a key: an int or a str -/
abbrev Key := Sum Int Str
def keyIs : Key → Value → Bool
  | .inl k, v => Value.isInt k v
  | .inr x, v => Value.isStrOf x v
def keyH (w : World) : Key → Int
  | .inl k => hashInt k
  | .inr x => hashStr w x
theorem keyIs_shape : ∀ {k : Key} {v : Value}, keyIs k v = true → (∃ i t, k = Sum.inl i ∧ v = Value.int i t) ∨ (∃ x t, k = Sum.inr x ∧ v = Value.str x t)
  | .inl i, v, h => by
    obtain ⟨t, e⟩ := Value.isInt_shape (k := i) (v := v) h
    exact .inl ⟨i, t, rfl, e⟩
  | .inr x, v, h => by
    obtain ⟨t, e⟩ := Value.isStrOf_shape (x := x) (v := v) h
    exact .inr ⟨x, t, rfl, e⟩
theorem keyIs_int (i : Int) (t : Tok) : keyIs (.inl i) (.int i t) = true := by simp [keyIs, Value.isInt]
theorem keyIs_str (x : Str) (t : Tok) : keyIs (.inr x) (.str x t) = true := by simp [keyIs, Value.isStrOf]
theorem key_ll (a b : Int) : decide ((Sum.inl a : Key) = Sum.inl b) = (a == b) := by
  by_cases e : a = b
  · subst e; simp
  · have h : ¬ (Sum.inl a : Key) = Sum.inl b := fun q => e (Sum.inl.inj q)
    rw [decide_eq_false h]
    exact (beq_eq_false_iff_ne.mpr e).symm
theorem key_rr (a b : Str) : decide ((Sum.inr a : Key) = Sum.inr b) = decide (a = b) := by
  by_cases e : a = b
  · subst e; simp
  · have h : ¬ (Sum.inr a : Key) = Sum.inr b := fun q => e (Sum.inr.inj q)
    rw [decide_eq_false h, decide_eq_false e]
theorem key_lr (a : Int) (b : Str) : decide ((Sum.inl a : Key) = Sum.inr b) = false := decide_eq_false (fun q => nomatch q)
theorem key_rl (a : Str) (b : Int) : decide ((Sum.inr a : Key) = Sum.inl b) = false := decide_eq_false (fun q => nomatch q)

def mixKind (prog : Program) (w : World) : PySem.KeyKind prog w Key where
  is := keyIs
  hash := keyH w
  inj := fun v a b ha hb => by
    rcases keyIs_shape ha with ⟨i, t, rfl, rfl⟩ | ⟨x, t, rfl, rfl⟩
    · rcases keyIs_shape hb with ⟨j, u, rfl, e⟩ | ⟨y, u, rfl, e⟩
      · injection e with e1 _; rw [e1]
      · exact nomatch e
    · rcases keyIs_shape hb with ⟨j, u, rfl, e⟩ | ⟨y, u, rfl, e⟩
      · exact nomatch e
      · injection e with e1 _; rw [e1]
  byValue := fun k v h => by
    rcases keyIs_shape h with ⟨i, t, rfl, rfl⟩ | ⟨x, t, rfl, rfl⟩ <;> rfl
  pyHash := fun hv h => by
    rcases keyIs_shape hv with ⟨i, t, rfl, rfl⟩ | ⟨x, t, rfl, rfl⟩
    · exact wpAny_pyHash_int h
    · exact wpAny_pyHash_str h
  eqBool := fun hu hv h => by
    rcases keyIs_shape hu with ⟨i, t, rfl, rfl⟩ | ⟨x, t, rfl, rfl⟩
    · rcases keyIs_shape hv with ⟨j, u, rfl, rfl⟩ | ⟨y, u, rfl, rfl⟩
      · rw [key_ll] at h; exact wpAny_eqBool_int h
      · rw [key_lr] at h; exact SeqAt.EqAt.int_str i t y u _ _ _ _ h
    · rcases keyIs_shape hv with ⟨j, u, rfl, rfl⟩ | ⟨y, u, rfl, rfl⟩
      · rw [key_rl] at h; exact SeqAt.EqAt.str_int x t j u _ _ _ _ h
      · rw [key_rr] at h; exact wpAny_eqBool_str h
  «strs» := fun k x t v h => by
    rcases keyIs_shape h with ⟨i, u, rfl, e⟩ | ⟨y, u, rfl, e⟩
    · exact nomatch e
    · injection e with e1 _
      subst e1
      cases v <;> rfl

theorem mixKind_is (prog : Program) (w : World) (k : Key) (v : Value) : (mixKind prog w).is k v = keyIs k v := rfl
theorem mixKind_int (prog : Program) (w : World) (i : Int) (t : Tok) : (mixKind prog w).is (.inl i) (.int i t) = true := keyIs_int i t
theorem mixKind_str (prog : Program) (w : World) (x : Str) (t : Tok) : (mixKind prog w).is (.inr x) (.str x t) = true := keyIs_str x t
end L2

namespace L2
open PySem PySem.Spec PyProof.Rows

/-- a value, without the heap -/
inductive V where
  | non | bl (b : Bool) | int (i : Int) | str (x : Str) | byt (b : Array UInt8) | flt (b : UInt64) | ref (a : Addr) | ty (n : String)
  deriving DecidableEq

def RelV : V → Value → Prop
  | .non, u => u = Value.none
  | .bl b, u => u = Value.bool b
  | .int i, u => ∃ t, u = Value.int i t
  | .str x, u => ∃ t, u = Value.str x t
  | .byt b, u => ∃ t, u = Value.bytes b t
  | .flt b, u => ∃ t, u = Value.float b t
  | .ref a, u => u = Value.ref a
  | .ty n, u => u = Value.type n

abbrev Vals : List V → List Value → Prop := Paired RelV
theorem Vals.length {xs : List V} {us : List Value} (r : Vals xs us) : xs.length = us.length := Paired.length r
theorem Vals.get : ∀ {xs : List V} {us : List Value} {i : Nat} {x : V}, Vals xs us → xs[i]? = some x → ∃ u, us[i]? = some u ∧ RelV x u
  | _, _, _, _, .nil, e => by simp at e
  | _, _, 0, _, .cons r _, e => by simp at e; subst e; exact ⟨_, rfl, r⟩
  | _, _, i + 1, x, .cons _ t, e => by
    obtain ⟨u, h1, h2⟩ := Vals.get (i := i) (x := x) t (by simpa using e)
    exact ⟨u, by simpa using h1, h2⟩
theorem Vals.set {x : V} {u : Value} (r : RelV x u) : ∀ {xs : List V} {us : List Value} (i : Nat), Vals xs us → Vals (xs.set i x) (us.set i u)
  | _, _, _, .nil => .nil
  | _, _, 0, .cons _ t => .cons r t
  | _, _, i + 1, .cons q t => .cons q (Vals.set r i t)
theorem Vals.append : ∀ {xs ys : List V} {us ws : List Value}, Vals xs us → Vals ys ws → Vals (xs ++ ys) (us ++ ws)
  | _, _, _, _, .nil, s => s
  | _, _, _, _, .cons r t, s => .cons r (Vals.append t s)
theorem Vals.take : ∀ {xs : List V} {us : List Value} (n : Nat), Vals xs us → Vals (xs.take n) (us.take n)
  | _, _, 0, _ => .nil
  | _, _, _ + 1, .nil => .nil
  | _, _, n + 1, .cons r t => .cons r (Vals.take n t)
theorem Vals.drop : ∀ {xs : List V} {us : List Value} (n : Nat), Vals xs us → Vals (xs.drop n) (us.drop n)
  | _, _, 0, r => r
  | _, _, _ + 1, .nil => .nil
  | _, _, n + 1, .cons _ t => Vals.drop n t
theorem Vals.none_of : ∀ {xs : List V} {us : List Value} {i : Nat}, Vals xs us → xs[i]? = none → us[i]? = none := fun {xs us i} r e => by
  have h1 := r.length
  have h2 : xs.length ≤ i := List.getElem?_eq_none_iff.mp e
  exact List.getElem?_eq_none_iff.mpr (by omega)

def RelO : Option V → Option Value → Prop
  | some v, some u => RelV v u
  | none, none => True
  | _, _ => False
def KV {κ : Type} : List (κ × V) → List (κ × Value) → Prop := Paired fun (p : κ × V) (q : κ × Value) => p.1 = q.1 ∧ RelV p.2 q.2

/-- a key of a dict (00_mix): an int or a text -/
def kV : Key → V
  | .inl i => .int i
  | .inr x => .str x

/-- what stands at a tracked address -/
inductive HO where
  /-- a list -/
  | lst (xs : List V)
  /-- a tuple (never changes) -/
  | tup (xs : List V)
  /-- a dict whose keys are ints and texts; one whose keys are tuples of ints and texts (the empty one is both) -/
  | dK (kvs : List (Key × V)) | dT (kvs : List (List Key × V))
  /-- a set of ints: its members, its size -/
  | set (S : Int → Bool) (n : Nat)
  /-- an instance of the class at C, its dict at dx, its attributes -/
  | ins (C dx : Addr) (fs : List (Str × V))
  /-- the dict of the instance at x -/
  | own (x : Addr)
  /-- the dict of an exception -/
  | xd (fs : List (Str × V))
  /-- a bound method, f of x -/
  | met (f x : Addr)
  /-- a range object lo, lo + 1, .. below hi -/
  | rng (lo hi : Int)
  /-- a thing that is known to the object (the script; a dict while a loop walks it): read, never written while it is so -/
  | frz (o : Obj) (u : HO)
  /-- a code object's table -/
  | tbl (ps : Array Value)
  /-- any other thing, by what is true of its one object (a def of one's own: SetO a S n := HO.ext fun h => ..) -/
  | ext (φ : Heap → Prop)

abbrev Hp := Addr → Option HO
def upd (H : Hp) (a : Addr) (o : HO) : Hp := fun b => if b = a then some o else H b
theorem upd_same {H : Hp} {a : Addr} {o : HO} : upd H a o a = some o := by unfold upd; rw [if_pos rfl]
theorem upd_ne {H : Hp} {a b : Addr} {o : HO} (h : b ≠ a) : upd H a o b = H b := by unfold upd; rw [if_neg h]
theorem upd_upd {H : Hp} {a : Addr} {o u : HO} : upd (upd H a o) a u = upd H a u := by
  funext b; unfold upd; split <;> rfl
/-- two objects of different content stand apart -/
theorem ne_of {H : Hp} {a b : Addr} {o u : HO} (h : H a = some o) (h' : H b = some u) (d : o ≠ u) : a ≠ b := by
  intro e; subst e; rw [h] at h'; exact d (Option.some.inj h')
theorem ne_of_none {H : Hp} {a b : Addr} {o : HO} (h : H a = some o) (h' : H b = none) : a ≠ b := by
  intro e; subst e; rw [h] at h'; cases h'

section
variable (P : Program) (w : World)
def ObjOk (H : Hp) (h : Heap) (a : Addr) : HO → Prop
  | .lst xs => xs.length ≤ sizeLine ∧ ∃ (its : List Value) (n : Nat), Vals xs its ∧ h.get? a = some { cls := .type "list", data := .seq its.toArray n }
  | .tup xs => xs.length ≤ sizeLine ∧ ∃ its : List Value, Vals xs its ∧ IsTup h a its.toArray
  | .dK kvs => kvs.length ≤ sizeLine ∧ (a == sysModules) = false ∧ ∃ vs, KV kvs vs ∧ h.DictOf (mixKind P w) a vs
  | .dT kvs => kvs.length ≤ sizeLine ∧ (a == sysModules) = false ∧ ∃ xs : List (List Key × Addr × Value),
      Paired (fun (p : List Key × V) (q : List Key × Addr × Value) => p.1 = q.1 ∧ H q.2.1 = some (.tup (p.1.map kV)) ∧ RelV p.2 q.2.2) kvs xs ∧
      ∃ o es ep, h.get? a = some o ∧ o.ExactDict ∧ o.data = .dict es ep ∧ es.toList = xs.map (entryOfKey (tupleKind (mixKind P w))) ∧ (xs.map (·.1)).Nodup
  | .set S n => h.SetOf (intKind P w) a S n
  | .ins C dx fs => H dx = some (.own a) ∧ fs.length ≤ 1000 ∧ dx ≠ a ∧ h.get? a = some (PySem.W.instObj C dx) ∧
      ∃ mA, h.Ns1 dx mA ∧ (∀ f, RelO (fs.lookup f) (mA f)) ∧ PySem.Within mA (fs.map (·.1))
  | .own _ => ∃ o, h.get? a = some o
  | .xd fs => ∃ mA, h.Ns1 a mA ∧ ∀ f, RelO (fs.lookup f) (mA f)
  | .rng lo hi => ∃ t u v, h.get? a = some { cls := .type "range", data := .fields #[.int lo t, .int hi u, .int 1 v] }
  | .frz o u => h.get? a = some o ∧ ObjOk H h a u
  | .tbl ps => h.get? a = some { cls := .none, data := .fields ps }
  | .met f x => h.get? a = some (PySem.W.methodObj (.ref f) (.ref x))
  | .ext φ => φ h ∧ (∃ o, h.get? a = some o) ∧ ∀ h1 h2 : Heap, φ h1 → (∀ o, h1.get? a = some o → h2.get? a = some o) → φ h2
/-- the abstract heap is held -/
def HOk (H : Hp) (h : Heap) : Prop := ∀ a o, H a = some o → ObjOk P w H h a o
end

section
variable {P : Program} {w : World} {H H' : Hp} {h h' : Heap} {a : Addr} {o : HO}
theorem ObjOk.lt (x : ObjOk P w H h a o) : a < h.objs.size := by
  cases o with
  | lst xs => obtain ⟨_, _, _, _, e⟩ := x; exact Heap.lt_size e
  | tup xs => obtain ⟨_, _, _, p⟩ := x; exact p.lt
  | dK kvs => obtain ⟨_, _, _, _, o, _, _, e, _⟩ := x; exact Heap.lt_size e
  | dT kvs => obtain ⟨_, _, _, _, o, _, _, e, _⟩ := x; exact Heap.lt_size e
  | set S n => obtain ⟨o, _, _, _, e, _⟩ := x; exact Heap.lt_size e
  | ins C dx fs => obtain ⟨_, _, _, e, _⟩ := x; exact Heap.lt_size e
  | own y => obtain ⟨_, e⟩ := x; exact Heap.lt_size e
  | xd fs => obtain ⟨_, ⟨_, _, _, e, _⟩, _⟩ := x; exact Heap.lt_size e
  | rng lo hi => obtain ⟨_, _, _, e⟩ := x; exact Heap.lt_size e
  | frz ob u => obtain ⟨e, _⟩ := x; exact Heap.lt_size e
  | tbl ps => exact Heap.lt_size (show h.get? a = some _ from x)
  | met f y => exact Heap.lt_size (show h.get? a = some _ from x)
  | ext φ => obtain ⟨_, ⟨_, e⟩, _⟩ := x; exact Heap.lt_size e
theorem Paired.mapP {α β : Type} {F G : α → β → Prop} : ∀ {l₁ : List α} {l₂ : List β}, Paired F l₁ l₂ → (∀ a b, F a b → G a b) → Paired G l₁ l₂
  | _, _, .nil, _ => .nil
  | _, _, .cons r t, f => .cons (f _ _ r) (Paired.mapP t f)
theorem Paired.imp' {α β : Type} {F G : α → β → Prop} (f : ∀ a b, F a b → G a b) {l₁ : List α} {l₂ : List β} (r : Paired F l₁ l₂) : Paired G l₁ l₂ := Paired.mapP r f
/-- what an object's description leans on: its own object, its own dict, the tuples -/
theorem ObjOk.stay (x : ObjOk P w H h a o) (k : ∀ b u, (b = a ∨ H b = some (.own a)) → h.get? b = some u → h'.get? b = some u)
    (ho : ∀ b, H b = some (.own a) → H' b = some (.own a)) (ht : ∀ b xs, H b = some (.tup xs) → H' b = some (.tup xs)) : ObjOk P w H' h' a o := by
  induction o with
  | lst xs => obtain ⟨z, its, n, r, e⟩ := x; exact ⟨z, its, n, r, k _ _ (.inl rfl) e⟩
  | tup xs => obtain ⟨z, its, r, ob, e, c⟩ := x; exact ⟨z, its, r, ob, k _ _ (.inl rfl) e, c⟩
  | dK kvs => obtain ⟨z, y, vs, r, ob, es, ep, e, c⟩ := x; exact ⟨z, y, vs, r, ob, es, ep, k _ _ (.inl rfl) e, c⟩
  | dT kvs =>
    obtain ⟨z, y, xs, r, ob, es, ep, e, c⟩ := x
    exact ⟨z, y, xs, Paired.mapP r fun p q z => ⟨z.1, ht _ _ z.2.1, z.2.2⟩, ob, es, ep, k _ _ (.inl rfl) e, c⟩
  | set S n => obtain ⟨ob, es, ep, t, e, c⟩ := x; exact ⟨ob, es, ep, t, k _ _ (.inl rfl) e, c⟩
  | ins C dx fs =>
    obtain ⟨d, z, ne, e, mA, ⟨od, es, ep, e2, c⟩, r⟩ := x
    exact ⟨ho _ d, z, ne, k _ _ (.inl rfl) e, mA, ⟨od, es, ep, k _ _ (.inr d) e2, c⟩, r⟩
  | own y => obtain ⟨ob, e⟩ := x; exact ⟨ob, k _ _ (.inl rfl) e⟩
  | xd fs => obtain ⟨mA, ⟨od, es, ep, e, c⟩, r⟩ := x; exact ⟨mA, ⟨od, es, ep, k _ _ (.inl rfl) e, c⟩, r⟩
  | rng lo hi => obtain ⟨t, u, v, e⟩ := x; exact ⟨t, u, v, k _ _ (.inl rfl) e⟩
  | frz ob u ih => obtain ⟨e, q⟩ := x; exact ⟨k _ _ (.inl rfl) e, ih q⟩
  | tbl ps =>
    have e : h.get? a = some { cls := .none, data := .fields ps } := x
    show h'.get? a = some { cls := .none, data := .fields ps }
    exact k a _ (.inl rfl) e
  | met f y =>
    have e : h.get? a = some (PySem.W.methodObj (.ref f) (.ref y)) := x
    show h'.get? a = some (PySem.W.methodObj (.ref f) (.ref y))
    exact k a _ (.inl rfl) e
  | ext φ => obtain ⟨p, ⟨o, e⟩, st⟩ := x; exact ⟨st _ _ p fun o q => k _ _ (.inl rfl) q, ⟨o, k _ _ (.inl rfl) e⟩, st⟩
theorem HOk.lt (x : HOk P w H h) (e : H a = some o) : a < h.objs.size := (x a o e).lt
theorem HOk.fresh (x : HOk P w H h) (e : h.objs.size ≤ a) : H a = none := by
  cases q : H a with
  | none => rfl
  | some u => exact absurd (Nat.lt_of_lt_of_le (x.lt q) e) (Nat.lt_irrefl _)
/-- every object of the heap is kept -/
theorem HOk.kept (x : HOk P w H h) (k : ∀ b u, h.get? b = some u → h'.get? b = some u) : HOk P w H h' := fun a o e =>
  (x a o e).stay (fun b u _ q => k b u q) (fun _ q => q) fun _ _ q => q
/-- a new object is laid and tracked -/
theorem HOk.laid (x : HOk P w H h) (k : ∀ b u, h.get? b = some u → h'.get? b = some u) (hp : h.objs.size ≤ a) (new : ObjOk P w (upd H a o) h' a o) : HOk P w (upd H a o) h' := fun b u e => by
  have hn := x.fresh hp
  by_cases hb : b = a
  · subst hb; rw [upd_same] at e; cases e; exact new
  · rw [upd_ne hb] at e
    exact (x b u e).stay (fun c v _ q => k c v q) (fun c q => by rw [upd_ne (ne_of_none q hn)]; exact q) fun c xs q => by rw [upd_ne (ne_of_none q hn)]; exact q
end

/-- what may be read as u: it is u, or a known u -/
def Rd (H : Hp) (a : Addr) (u : HO) : Prop := H a = some u ∨ ∃ o, H a = some (.frz o u)
theorem Rd.of {H : Hp} {a : Addr} {u : HO} (h : H a = some u) : Rd H a u := .inl h
theorem Rd.ok {P : Program} {w : World} {H : Hp} {h : Heap} {a : Addr} {u : HO} (r : Rd H a u) (x : HOk P w H h) : ObjOk P w H h a u := by
  rcases r with r | ⟨o, r⟩
  · exact x a u r
  · obtain ⟨_, q⟩ := x a _ r
    exact q
/-- what may be written -/
def Mut : Option HO → Prop
  | some (.lst _) => True
  | some (.dK _) => True
  | some (.dT _) => True
  | some (.set _ _) => True
  | some (.ins _ _ _) => True
  | some (.ext _) => True
  | _ => False
section
variable {P : Program} {w : World} {H : Hp} {h h' : Heap} {x e : Addr} {o' : HO}
/-- the object at e is changed: x itself, or the dict of the instance x -/
theorem HOk.write (ok : HOk P w H h) (mu : Mut (H x)) (he : e = x ∨ H e = some (.own x)) (k : ∀ b u, b ≠ e → h.get? b = some u → h'.get? b = some u) (heo : ∃ u, h'.get? e = some u)
    (new : ObjOk P w (upd H x o') h' x o') : HOk P w (upd H x o') h' := fun b u q => by
  have nown : ∀ c y, H c = some (.own y) → c ≠ x := fun c y r z => by subst z; rw [r] at mu; exact mu
  have ntup : ∀ c xs, H c = some (.tup xs) → c ≠ x := fun c xs r z => by subst z; rw [r] at mu; exact mu
  by_cases hb : b = x
  · subst hb; rw [upd_same] at q; cases q; exact new
  · rw [upd_ne hb] at q
    by_cases hbe : b = e
    · have q' : H b = some (.own x) := by
        rcases he with z | z
        · exact absurd (hbe.trans z) hb
        · rw [hbe]; exact z
      rw [q] at q'; cases q'
      obtain ⟨v, hv⟩ := heo
      exact ⟨v, by rw [hbe]; exact hv⟩
    · refine (ok b u q).stay (fun c v hc r => k c v ?_ r) (fun c r => by rw [upd_ne (nown c b r)]; exact r) fun c xs r => by rw [upd_ne (ntup c xs r)]; exact r
      rcases hc with rfl | hc
      · exact hbe
      · rintro rfl
        rcases he with z | z
        · exact nown c b hc z
        · rw [hc] at z; cases z; exact hb rfl
end

/-! ### kept unless tracked; of the frames at fs (the callers') the slots may change (an exception that passes writes there); of the records at ex (iterators) nothing is said -/
structure Un (fs ex : List Addr) (H H' : Hp) (h h' : Heap) : Prop where
  keep : ∀ b o, h.get? b = some o → H b = none → b ∉ fs → b ∉ ex → h'.get? b = some o
  slot : ∀ b o, h.get? b = some o → H b = none → b ∈ fs → b ∉ ex → ∃ sl, h'.get? b = some { o with slots := sl }
  free : ∀ b o, h.get? b = some o → H b = none → b ∉ ex → H' b = none
  there : ∀ b o, h.get? b = some o → b ∉ ex → ∃ o', h'.get? b = some o'
  tups : ∀ b xs, H b = some (.tup xs) → H' b = some (.tup xs)
  frzs : ∀ b o u, H b = some (.frz o u) → H' b = some (.frz o u)
  tbls : ∀ b ps, H b = some (.tbl ps) → ∃ more, H' b = some (.tbl (ps ++ more))
section
variable {fs fs' ex ex' : List Addr} {H H1 H2 : Hp} {h h1 h2 h' : Heap} {a x e : Addr} {o : HO}
theorem Un.any (u : Un fs ex H H1 h h1) {b : Addr} {ob : Obj} (q : h.get? b = some ob) (n : H b = none) (hx : b ∉ ex) : ∃ sl, h1.get? b = some { ob with slots := sl } := by
  by_cases hb : b ∈ fs
  · exact u.slot b ob q n hb hx
  · exact ⟨ob.slots, u.keep b ob q n hb hx⟩
theorem Un.trans (a : Un fs ex H H1 h h1) (b : Un fs ex H1 H2 h1 h2) : Un fs ex H H2 h h2 where
  keep := fun c ob q n hc hx => b.keep c ob (a.keep c ob q n hc hx) (a.free c ob q n hx) hc hx
  slot := fun c ob q n hc hx => by
    obtain ⟨sl, e1⟩ := a.slot c ob q n hc hx
    obtain ⟨sl', e2⟩ := b.slot c _ e1 (a.free c ob q n hx) hc hx
    exact ⟨sl', e2⟩
  free := fun c ob q n hx => by
    obtain ⟨o', e1⟩ := a.there c ob q hx
    exact b.free c o' e1 (a.free c ob q n hx) hx
  there := fun c ob q hx => by
    obtain ⟨o', e1⟩ := a.there c ob q hx
    exact b.there c o' e1 hx
  tups := fun c xs q => b.tups c xs (a.tups c xs q)
  frzs := fun c ob xs q => b.frzs c ob xs (a.frzs c ob xs q)
  tbls := fun c ps q => by
    obtain ⟨m1, e1⟩ := a.tbls c ps q
    obtain ⟨m2, e2⟩ := b.tbls c _ e1
    exact ⟨m1 ++ m2, by rw [e2, Array.append_assoc]⟩
theorem Un.kept (k : ∀ b u, h.get? b = some u → h'.get? b = some u) : Un fs ex H H h h' :=
  ⟨fun b ob q _ _ _ => k b ob q, fun b ob q _ _ _ => ⟨ob.slots, k b ob q⟩, fun _ _ _ n _ => n, fun b ob q _ => ⟨ob, k b ob q⟩, fun _ _ q => q, fun _ _ _ q => q, fun _ ps q => ⟨#[], by rw [q]; simp⟩⟩
theorem Un.refl : Un fs ex H H h h := Un.kept fun _ _ q => q
theorem Un.laid (k : ∀ b u, h.get? b = some u → h'.get? b = some u) (hp : h.objs.size ≤ a) (hn : H a = none) : Un fs ex H (upd H a o) h h' where
  keep := fun b u q _ _ _ => k b u q
  slot := fun b u q _ _ _ => ⟨u.slots, k b u q⟩
  free := fun b u q n _ => by rw [upd_ne (Nat.ne_of_lt (Nat.lt_of_lt_of_le (Heap.lt_size q) hp))]; exact n
  there := fun b u q _ => ⟨u, k b u q⟩
  tups := fun b xs q => by rw [upd_ne (ne_of_none q hn)]; exact q
  frzs := fun b u xs q => by rw [upd_ne (ne_of_none q hn)]; exact q
  tbls := fun b ps q => ⟨#[], by rw [upd_ne (ne_of_none q hn), q]; simp⟩
theorem Un.write (mu : Mut (H x)) (he : e = x ∨ H e = some (.own x)) (k : ∀ b u, b ≠ e → h.get? b = some u → h'.get? b = some u) (heo : ∃ u, h'.get? e = some u) : Un fs ex H (upd H x o) h h' := by
  have hx : ∀ b, H b = none → b ≠ x := fun b n z => by subst z; rw [n] at mu; exact mu
  have hb : ∀ b, H b = none → b ≠ e := fun b n z => by
    subst z
    rcases he with r | r
    · exact hx b n r
    · rw [n] at r; cases r
  have hm : ∀ b u, H b = some u → ¬ Mut (some u) → b ≠ x := fun b u q nm z => by subst z; rw [q] at mu; exact nm mu
  refine ⟨fun b u q n _ _ => k b u (hb b n) q, fun b u q n _ _ => ⟨u.slots, k b u (hb b n) q⟩, fun b u q n _ => by rw [upd_ne (hx b n)]; exact n, fun b u q _ => ?_,
    fun b xs q => by rw [upd_ne (hm b _ q fun z => z)]; exact q, fun b u xs q => by rw [upd_ne (hm b _ q fun z => z)]; exact q, fun b ps q => ⟨#[], by rw [upd_ne (hm b _ q fun z => z), q]; simp⟩⟩
  by_cases hbe : b = e
  · subst hbe; exact heo
  · exact ⟨u, k b u hbe q⟩
theorem Un.mono (u : Un fs ex H H1 h h1) (hs : ∀ b ∈ fs, b ∈ fs') (hx : ∀ b ∈ ex, b ∈ ex') : Un fs' ex' H H1 h h1 :=
  ⟨fun b ob q n hb he => u.keep b ob q n (fun z => hb (hs b z)) fun z => he (hx b z), fun _ _ q n _ he => u.any q n fun z => he (hx _ z), fun b ob q n he => u.free b ob q n fun z => he (hx b z), fun b ob q he => u.there b ob q fun z => he (hx b z), u.tups, u.frzs, u.tbls⟩
end

/-! ### the heap without what is tracked -/
def trk (h : Heap) (H : Hp) : List Addr := (List.range h.objs.size).filter fun a => (H a).isSome
def hidT (h : Heap) (H : Hp) : Heap := PySem.W.hideAll h (trk h H)
theorem hidT_size (h : Heap) (H : Hp) : (hidT h H).objs.size = h.objs.size := PySem.W.hideAll_size _ _
theorem hidT_get {h : Heap} {H : Hp} {b : Addr} {o : Obj} (e : h.get? b = some o) (n : H b = none) : (hidT h H).get? b = some o :=
  PySem.W.hideAll_get _ e fun hm => by
    have q : (H b).isSome = true := (List.mem_filter.mp hm).2
    rw [n] at q; simp at q
theorem of_hidT {h : Heap} {H : Hp} {b : Addr} {o : Obj} (e : (hidT h H).get? b = some o) : h.get? b = some o ∧ H b = none := by
  have e' : h.get? b = some o := PySem.W.of_hideAll (trk h H) e
  refine ⟨e', ?_⟩
  cases q : H b with
  | none => rfl
  | some x =>
    have hm : b ∈ trk h H := List.mem_filter.mpr ⟨List.mem_range.mpr (Heap.lt_size e'), by simp [q]⟩
    have z : (hidT h H).get? b = none := PySem.W.hideAll_none (trk h H) hm
    rw [z] at e; cases e

/-! ### OpenK's ledger, filled with every new object but one -/
def allNews (g h : Heap) (L : Addr) : List (Addr × Obj) := (List.range h.objs.size).filterMap fun a => if a = L ∨ (g.get? a).isSome = true then none else (h.get? a).map fun o => (a, o)
theorem mem_allNews {g h : Heap} {L a : Addr} {o : Obj} (h1 : a ≠ L) (h2 : g.get? a = none) (h3 : h.get? a = some o) : (a, o) ∈ allNews g h L :=
  List.mem_filterMap.mpr ⟨a, List.mem_range.mpr (Heap.lt_size h3), by simp [h1, h2, h3]⟩
theorem of_mem_allNews {g h : Heap} {L : Addr} {p : Addr × Obj} (hp : p ∈ allNews g h L) : p.1 ≠ L ∧ g.get? p.1 = none ∧ h.get? p.1 = some p.2 := by
  obtain ⟨b, _, e⟩ := List.mem_filterMap.mp hp
  split at e
  · cases e
  · rename_i hn
    cases q : h.get? b with
    | none => rw [q] at e; simp at e
    | some u =>
      rw [q] at e
      simp only [Option.map_some, Option.some.injEq] at e
      subst e
      refine ⟨fun z => hn (.inl z), ?_, q⟩
      show g.get? b = none
      cases r : g.get? b with
      | none => rfl
      | some v => exact (hn (.inr (by simp [r]))).elim
def rest (g h : Heap) (L d : Addr) : List (Addr × Obj) := (allNews g h L).filter fun p => decide (p.1 ≠ d)
theorem rest_ne {g h : Heap} {L d : Addr} : ∀ p ∈ rest g h L d, p.1 ≠ d := fun p hp => of_decide_eq_true (List.mem_filter.mp hp).2
theorem mem_rest {g h : Heap} {L d a : Addr} {o : Obj} (h1 : a ≠ L) (h2 : g.get? a = none) (h3 : h.get? a = some o) (h4 : a ≠ d) : (a, o) ∈ rest g h L d :=
  List.mem_filter.mpr ⟨mem_allNews h1 h2 h3, decide_eq_true h4⟩
theorem news_all {g h : Heap} {L : Addr} : News g L h (allNews g h L) := fun p hp => let ⟨a, b, c⟩ := of_mem_allNews hp; ⟨c, a, b⟩
theorem news_at {g h : Heap} {L d : Addr} {o : Obj} (h1 : d ≠ L) (h2 : g.get? d = none) (h3 : h.get? d = some o) : News g L h ((d, o) :: rest g h L d) := fun p hp => by
  rcases List.mem_cons.mp hp with rfl | hp
  · exact ⟨h3, h1, h2⟩
  · exact news_all p (List.mem_filter.mp hp).1
/-- behind a rule that changed d alone: all else but the frame is kept -/
theorem kept_of_news {g h h' : Heap} {L d : Addr} {m : Str → Option Value} (k : ∀ b o, g.get? b = some o → h.get? b = some o) (F : Fr g L h' m) (N : News g L h' (rest g h L d)) :
    ∀ b o, b ≠ L → b ≠ d → h.get? b = some o → h'.get? b = some o := fun b o h1 h2 e => by
  cases q : g.get? b with
  | some u =>
    have := k b u q
    rw [e] at this; cases this
    exact F.keep b _ q
  | none => exact (N (b, o) (mem_rest h1 q e h2)).1
end L2

namespace L2
open PySem PySem.Spec PyProof.Rows

/-- the module's facts, over the base: the heap at the law's entry without what is tracked there -/
structure Mod (K : PySem.W.Frag) (mg : Str → Option Value) (base : Heap) : Prop where
  kin : K.In base
  glob : base.Ns mainGlobals mg
  blt : ∃ mb, base.Ns builtinsNs mb ∧ ∀ x : Str, x ≠ "__name__" → mb x = bootBuiltins x
  nolimit : base.NoLimit

/-- the context: a def's body (or a comprehension's block) running. base: fixed through the whole law; s₀, H₀: the entry; outer: the frames whose slots others may change (a def's callers); stack: all frames that run;
   ex: iterators that were made ahead of the entry and are walked here (a comprehension's); fn: the names whose cells were made at the entry (a def: all; a comprehension's block: its own); calm: not within an except suite; pn: pins that every state bears; xe: what is wanted of an exception that leaves the code -/
structure Cx where
  prog : Program
  w : World
  K : PySem.W.Frag
  mg : Str → Option Value
  base : Heap
  A : Around
  N : List Str
  s_0 : Shared
  H_0 : Hp
  env : Env
  outer : List Env
  stack : List Env
  ex : List Addr
  fn : Str → Bool
  calm : Bool
  pn : List (Addr × Obj)
  xe : Value → Shared → Prop
/-- the callers' frames -/
def frs (l : List Env) : List Addr := l.filterMap (·.frame)
abbrev Cx.fs (X : Cx) : List Addr := frs X.outer

def Vis (sc : Scope) (x : Str) : Prop := sc.names.lookup x = some .local ∨ sc.names.lookup x = some .cell ∨ sc.names.lookup x = some .free
def Loc (sc : Scope) (x : Str) : Prop := sc.names.lookup x = some .local ∨ sc.names.lookup x = some .cell
def Look (env : Env) (h : Heap) (m : Str → Option Value) (x : Str) (u : Value) : Prop :=
  (env.kindOf x = some .local ∧ m x = some u) ∨ ((env.kindOf x = some .cell ∨ env.kindOf x = some .free) ∧ ∃ c, env.cells.lookup x = some c ∧ h.IsCell c (some u))

structure Cx.Ok (X : Cx) : Prop where
  mod : Mod X.K X.mg X.base
  kind : X.env.scope.kind = .function
  glob : X.env.globals = mainGlobals
  blt : X.env.builtins = builtinsNs
  above : X.s_0.heap.objs.size ≤ X.env.locals
  inj : ∀ x y c, X.env.cells.lookup x = some c → X.env.cells.lookup y = some c → x = y
  has : ∀ x, (X.env.kindOf x = some .cell ∨ X.env.kindOf x = some .free) → ∃ c, X.env.cells.lookup x = some c
  cab : ∀ x c, X.fn x = true → X.env.cells.lookup x = some c → X.s_0.heap.objs.size ≤ c
  hd : X.calm = true → X.A.handled = none
  frames : X.A.frames = some X.stack
  stk : X.stack = X.outer ∨ (X.stack = X.env :: X.outer ∧ X.env.frame = some X.env.locals)
  exf : ∀ b ∈ X.ex, b ≠ X.env.locals ∧ ∀ x c, X.env.cells.lookup x = some c → c ≠ b
  bs : ∀ b o, X.base.get? b = some o → X.s_0.heap.get? b = some o ∧ X.H_0 b = none
  bsz : X.base.objs.size ≤ X.s_0.heap.objs.size
  noex : ∀ b o, X.base.get? b = some o → b ∉ X.ex
  exfs : ∀ b ∈ X.ex, b ∉ X.fs
  funs : X.s_0.heap.FunFrames X.base X.outer
  frf : ∀ b ∈ X.fs, X.H_0 b = none

structure Inv (X : Cx) (pins : List (Addr × Obj)) (σ : List (Option V)) (H : Hp) (s : Shared) : Prop where
  ok : X.Ok
  os : s.os = X.s_0.os
  bare : AllBare s.gens
  base : Un X.fs X.ex X.H_0 H X.s_0.heap s.heap
  loc : ∃ m, s.heap.Ns X.env.locals m ∧ ∀ (i : Nat) (x : Str) (v : V), X.N[i]? = some x → σ[i]? = some (some v) → Vis X.env.scope x → ∃ u, RelV v u ∧ Look X.env s.heap m x u
  cell : ∀ x c, X.env.cells.lookup x = some c → ∃ v, s.heap.IsCell c v
  free : H X.env.locals = none
  freeC : ∀ x c, X.env.cells.lookup x = some c → H c = none
  pin : ∀ p ∈ X.pn ++ pins, s.heap.get? p.1 = some p.2 ∧ H p.1 = none ∧ p.1 ≠ X.env.locals ∧ p.1 ∉ X.fs ∧ ∀ v, p.2.data ≠ .cell v
  hok : HOk X.prog X.w H s.heap
  len : σ.length = X.N.length

section
variable {X : Cx} {pins : List (Addr × Obj)} {σ : List (Option V)} {H H' : Hp} {s : Shared} {h' : Heap}

theorem Cx.Ok.nofr (ok : X.Ok) {b : Addr} {o : Obj} (e : X.base.get? b = some o) : b ∉ X.fs := fun hb => by
  have := (ok.funs.mem hb).1
  rw [e] at this; cases this
theorem Inv.bs (I : Inv X pins σ H s) : ∀ b o, X.base.get? b = some o → s.heap.get? b = some o ∧ H b = none := fun b o e =>
  ⟨I.base.keep b o (I.ok.bs b o e).1 (I.ok.bs b o e).2 (I.ok.nofr e) (I.ok.noex b o e), I.base.free b o (I.ok.bs b o e).1 (I.ok.bs b o e).2 (I.ok.noex b o e)⟩
theorem Inv.bk (I : Inv X pins σ H s) : ∀ b o, X.base.get? b = some o → s.heap.get? b = some o := fun b o e => (I.bs b o e).1
theorem Inv.mod (I : Inv X pins σ H s) : Mod X.K X.mg X.base := I.ok.mod
theorem Inv.kIn (I : Inv X pins σ H s) : X.K.In s.heap := I.ok.mod.kin.keeps I.bk
theorem Inv.nolimit (I : Inv X pins σ H s) : s.heap.NoLimit := I.ok.mod.nolimit.keeps I.bk
/-- the frame over the base: for OpenK's rules (K.In X.base is I.mod.kin) -/
theorem Inv.fr (I : Inv X pins σ H s) : ∃ m, Fr X.base X.env.locals s.heap m :=
  let ⟨m, hn, _⟩ := I.loc
  ⟨m, hn, I.bk, Nat.le_trans I.ok.bsz I.ok.above⟩
theorem Inv.lt (I : Inv X pins σ H s) : X.env.locals < s.heap.objs.size := let ⟨_, hn, _⟩ := I.loc; hn.lt
theorem Inv.sz (I : Inv X pins σ H s) : X.s_0.heap.objs.size ≤ s.heap.objs.size := Nat.le_trans I.ok.above (Nat.le_of_lt I.lt)
theorem Inv.nofs (I : Inv X pins σ H s) {a : Addr} (h : s.heap.objs.size ≤ a) : a ∉ X.fs := fun hb => by
  obtain ⟨_, o, ho, _⟩ := I.ok.funs.mem hb
  exact absurd (Nat.lt_of_lt_of_le (Heap.lt_size ho) (Nat.le_trans I.sz h)) (Nat.lt_irrefl _)
theorem Inv.cne (I : Inv X pins σ H s) : ∀ x c, X.env.cells.lookup x = some c → c ≠ X.env.locals := fun x c e z => by
  obtain ⟨v, o, ho, hd⟩ := I.cell x c e
  obtain ⟨m, ⟨o', es, ep, ho', hd', _⟩, _⟩ := I.loc
  rw [z, ho'] at ho; cases ho; rw [hd'] at hd; cases hd
theorem Inv.funs (I : Inv X pins σ H s) : s.heap.FunFrames X.base X.outer := by
  have all : ∀ (l : List Env), (∀ b ∈ frs l, b ∈ X.fs) → X.s_0.heap.FunFrames X.base l → s.heap.FunFrames X.base l := by
    intro l
    induction l with
    | nil => intro _ _; trivial
    | cons env r ih =>
      intro hs hl
      obtain ⟨hk, ⟨L, o, hf, hn, ho, hd⟩, hr⟩ := hl
      have hL : L ∈ X.fs := hs L (by unfold frs; rw [List.filterMap_cons, hf]; exact List.mem_cons_self)
      obtain ⟨sl, e⟩ := I.base.slot L o ho (I.ok.frf L hL) hL fun z => I.ok.exfs L z hL
      exact ⟨hk, ⟨L, _, hf, hn, e, hd⟩, ih (fun b hb => hs b (by unfold frs; rw [List.filterMap_cons, hf]; exact List.mem_cons_of_mem _ hb)) hr⟩
  exact all X.outer (fun _ hb => hb) I.ok.funs

/-- the frames that run, for a call -/
theorem Inv.stack (I : Inv X pins σ H s) : s.heap.FunFrames X.base X.stack := by
  rcases I.ok.stk with e | ⟨e, hf⟩
  · rw [e]; exact I.funs
  · rw [e]
    obtain ⟨m, hn, _⟩ := I.loc
    refine .cons (by rw [I.ok.kind]; decide) hf hn ?_ I.funs
    exact Heap.get?_none_of_le (Nat.le_trans I.ok.bsz I.ok.above)
theorem Inv.stkSub (I : Inv X pins σ H s) : ∀ b ∈ frs X.stack, b ∈ X.env.locals :: X.fs := fun b hb => by
  rcases I.ok.stk with e | ⟨e, hf⟩
  · rw [e] at hb; exact List.mem_cons_of_mem _ hb
  · rw [e] at hb
    unfold frs at hb
    rw [List.filterMap_cons, hf] at hb
    exact hb
theorem Inv.stkFree (I : Inv X pins σ H s) : ∀ b ∈ frs X.stack, H b = none := fun b hb => by
  rcases List.mem_cons.mp (I.stkSub b hb) with e | hb
  · rw [e]; exact I.free
  · obtain ⟨_, o, ho, _⟩ := I.ok.funs.mem hb
    exact I.base.free b o ho (I.ok.frf b hb) fun z => I.ok.exfs b z hb

/-- THE STEP: the untracked objects but the frame and the records at ch are kept (the callers' frames up to slots), the frame's map is kept, the new abstract heap is held -/
theorem Inv.step {g' : Array GenState} {t' : Nat} {d' : Drawn} {ch : List Addr} (I : Inv X pins σ H s)
    (hch : ∀ b ∈ ch, (b ∈ X.ex ∨ X.s_0.heap.objs.size ≤ b) ∧ b ≠ X.env.locals ∧ (∀ x c, X.env.cells.lookup x = some c → c ≠ b) ∧ ∀ p ∈ X.pn ++ pins, p.1 ≠ b)
    (keep : ∀ b o, b ≠ X.env.locals → b ∉ X.fs → b ∉ ch → s.heap.get? b = some o → H b = none → h'.get? b = some o)
    (slot : ∀ b o, b ≠ X.env.locals → b ∈ X.fs → b ∉ ch → s.heap.get? b = some o → H b = none → ∃ sl, h'.get? b = some { o with slots := sl }) (free : ∀ b o, b ∉ ch → s.heap.get? b = some o → H b = none → H' b = none)
    (there : ∀ b o, b ∉ ch → s.heap.get? b = some o → ∃ o', h'.get? b = some o')
    (tups : ∀ b xs, H b = some (.tup xs) → H' b = some (.tup xs)) (frzs : ∀ b o u, H b = some (.frz o u) → H' b = some (.frz o u)) (tbls : ∀ b ps, H b = some (.tbl ps) → ∃ more, H' b = some (.tbl (ps ++ more)))
    (ns : ∀ m, s.heap.Ns X.env.locals m → h'.Ns X.env.locals m) (hok : HOk X.prog X.w H' h') (hg : AllBare g') :
    Inv X pins σ H' { s with heap := h', gens := g', drawn := d', toks := t' } := by
  have neL : ∀ b o, X.s_0.heap.get? b = some o → b ≠ X.env.locals := fun b o e => Nat.ne_of_lt (Nat.lt_of_lt_of_le (Heap.lt_size e) I.ok.above)
  have neC : ∀ b o, X.s_0.heap.get? b = some o → b ∉ X.ex → b ∉ ch := fun b o e hx hb => by
    rcases (hch b hb).1 with z | z
    · exact hx z
    · exact absurd (Nat.lt_of_lt_of_le (Heap.lt_size e) z) (Nat.lt_irrefl _)
  have cellK : ∀ x c, X.env.cells.lookup x = some c → ∀ v, s.heap.IsCell c v → h'.IsCell c v := fun x c e v ⟨o, ho, hd⟩ => by
    have nch : c ∉ ch := fun z => (hch c z).2.2.1 x c e rfl
    by_cases hc : c ∈ X.fs
    · obtain ⟨sl, q⟩ := slot c o (I.cne x c e) hc nch ho (I.freeC x c e)
      exact ⟨_, q, hd⟩
    · exact ⟨o, keep c o (I.cne x c e) hc nch ho (I.freeC x c e), hd⟩
  refine ⟨I.ok, I.os, hg, ⟨fun b o e n hb hx => ?_, fun b o e n hb hx => ?_, fun b o e n hx => ?_, fun b o e hx => ?_, fun b xs e => tups b xs (I.base.tups b xs e), fun b o xs e => frzs b o xs (I.base.frzs b o xs e), fun b ps e => ?_⟩, ?_, fun x c e => ?_, ?_, fun x c e => ?_, fun p hp => ?_, hok, I.len⟩
  · exact keep b o (neL b o e) hb (neC b o e hx) (I.base.keep b o e n hb hx) (I.base.free b o e n hx)
  · obtain ⟨sl, e1⟩ := I.base.slot b o e n hb hx
    obtain ⟨sl', e2⟩ := slot b _ (neL b o e) hb (neC b o e hx) e1 (I.base.free b o e n hx)
    exact ⟨sl', e2⟩
  · obtain ⟨o', e1⟩ := I.base.there b o e hx
    exact free b o' (neC b o e hx) e1 (I.base.free b o e n hx)
  · obtain ⟨o', e1⟩ := I.base.there b o e hx
    exact there b o' (neC b o e hx) e1
  · obtain ⟨m1, e1⟩ := I.base.tbls b ps e
    obtain ⟨m2, e2⟩ := tbls b _ e1
    exact ⟨m1 ++ m2, by rw [e2, Array.append_assoc]⟩
  · obtain ⟨m, hn, hl⟩ := I.loc
    refine ⟨m, ns m hn, fun i x v e1 e2 e3 => ?_⟩
    obtain ⟨u, r, l⟩ := hl i x v e1 e2 e3
    refine ⟨u, r, ?_⟩
    rcases l with l | ⟨k, c, e, z⟩
    · exact .inl l
    · exact .inr ⟨k, c, e, cellK x c e _ z⟩
  · obtain ⟨v, z⟩ := I.cell x c e
    exact ⟨v, cellK x c e v z⟩
  · obtain ⟨m, ⟨o, _, _, ho, _⟩, _⟩ := I.loc
    exact free _ o (fun z => (hch _ z).2.1 rfl) ho I.free
  · obtain ⟨v, o, ho, hd⟩ := I.cell x c e
    exact free c o (fun z => (hch c z).2.2.1 x c e rfl) ho (I.freeC x c e)
  · obtain ⟨e, n, ne, nf, d⟩ := I.pin p hp
    have nch : p.1 ∉ ch := fun z => (hch p.1 z).2.2.2 p hp rfl
    exact ⟨keep p.1 p.2 ne nf nch e n, free p.1 p.2 nch e n, ne, nf, d⟩
/-- .. where the frame's own object is kept too -/
theorem Inv.un {t' : Nat} (I : Inv X pins σ H s) (u : Un X.fs [] H H' s.heap h') (hok : HOk X.prog X.w H' h') : Inv X pins σ H' { s with heap := h', toks := t' } := by
  obtain ⟨m, ⟨o, es, ep, ho, r⟩, _⟩ := id I.loc
  obtain ⟨sl, hL⟩ := u.any ho I.free (by simp)
  exact I.step (g' := s.gens) (d' := s.drawn) (ch := []) (fun _ z => nomatch z) (fun b o _ hb _ e n => u.keep b o e n hb (by simp)) (fun b o _ hb _ e n => u.slot b o e n hb (by simp)) (fun b o _ e n => u.free b o e n (by simp)) (fun b o _ e => u.there b o e (by simp)) u.tups u.frzs u.tbls (fun m' hm => by
    obtain ⟨o', es', ep', ho', r'⟩ := hm
    rw [ho] at ho'; cases ho'
    exact ⟨_, es', ep', hL, r'⟩) hok I.bare
/-- behind a call (or a comprehension's block): the slots of this frame may have changed too, the records at ch may have turned -/
theorem Inv.call {g' : Array GenState} {t' : Nat} {d' : Drawn} {ch : List Addr} (I : Inv X pins σ H s) (u : Un (frs X.stack) ch H H' s.heap h') (hok : HOk X.prog X.w H' h') (hg : AllBare g')
    (hch : ∀ b ∈ ch, (b ∈ X.ex ∨ X.s_0.heap.objs.size ≤ b) ∧ b ≠ X.env.locals ∧ (∀ x c, X.env.cells.lookup x = some c → c ≠ b) ∧ ∀ p ∈ X.pn ++ pins, p.1 ≠ b) :
    Inv X pins σ H' { s with heap := h', gens := g', drawn := d', toks := t' } := by
  obtain ⟨m, ⟨o, es, ep, ho, r⟩, _⟩ := id I.loc
  obtain ⟨sl, hL⟩ := u.any ho I.free fun z => (hch _ z).2.1 rfl
  exact I.step (ch := ch) hch (fun b o hL hb hc e n => u.keep b o e n (fun z => (List.mem_cons.mp (I.stkSub b z)).elim hL hb) hc) (fun b o _ _ hc e n => u.any e n hc) (fun b o hc e n => u.free b o e n hc) (fun b o hc e => u.there b o e hc) u.tups u.frzs u.tbls (fun m' hm => by
    obtain ⟨o', es', ep', ho', r'⟩ := hm
    rw [ho] at ho'; cases ho'
    exact ⟨_, es', ep', hL, r'⟩) hok hg
/-- an untracked record of ours (an iterator) has turned -/
theorem Inv.turned {t' : Nat} {it : Addr} (I : Inv X pins σ H s) (k : ∀ b o, b ≠ it → s.heap.get? b = some o → h'.get? b = some o) (hn : H it = none) (hL : it ≠ X.env.locals)
    (h1 : it ∈ X.ex ∨ X.s_0.heap.objs.size ≤ it) (h2 : ∀ x c, X.env.cells.lookup x = some c → c ≠ it) (h3 : ∀ p ∈ X.pn ++ pins, p.1 ≠ it) : Inv X pins σ H { s with heap := h', toks := t' } := by
  have nit : ∀ b u, H b = some u → b ≠ it := fun b u e z => by rw [z, hn] at e; cases e
  refine I.step (g' := s.gens) (d' := s.drawn) (ch := [it]) (fun b hb => ?_) (fun b o _ _ hc e _ => k b o (fun z => hc (by simp [z])) e) (fun b o _ _ hc e _ => ⟨o.slots, k b o (fun z => hc (by simp [z])) e⟩) (fun _ _ _ _ n => n)
    (fun b o hc e => ⟨o, k b o (fun z => hc (by simp [z])) e⟩) (fun _ _ e => e) (fun _ _ _ e => e) (fun b ps e => ⟨#[], by rw [e]; simp⟩) (fun m hm => ?_) (fun b u e => ?_) I.bare
  · have e : b = it := by simpa using hb
    subst e
    exact ⟨h1, hL, h2, h3⟩
  · obtain ⟨o, es, ep, ho, r⟩ := hm
    exact ⟨o, es, ep, k _ o (Ne.symm hL) ho, r⟩
  · refine (I.hok b u e).stay (fun c v hc q => k c v ?_ q) (fun _ q => q) fun _ _ q => q
    rcases hc with z | z
    · rw [z]; exact nit b u e
    · exact nit c _ z
theorem Inv.tok (I : Inv X pins σ H s) (t : Nat) : Inv X pins σ H { s with toks := t } := I.un (h' := s.heap) (t' := t) Un.refl I.hok
/-- all objects kept -/
theorem Inv.kept {t' : Nat} (I : Inv X pins σ H s) (k : ∀ b u, s.heap.get? b = some u → h'.get? b = some u) : Inv X pins σ H { s with heap := h', toks := t' } := I.un (Un.kept k) (I.hok.kept k)
/-- a new object laid and tracked -/
theorem Inv.laid {a : Addr} {o : HO} {t' : Nat} (I : Inv X pins σ H s) (k : ∀ b u, s.heap.get? b = some u → h'.get? b = some u) (hp : s.heap.objs.size ≤ a) (new : ObjOk X.prog X.w (upd H a o) h' a o) :
    Inv X pins σ (upd H a o) { s with heap := h', toks := t' } := I.un (Un.laid k hp (I.hok.fresh hp)) (I.hok.laid k hp new)
/-- an object written -/
theorem Inv.write {x e : Addr} {o : HO} {t' : Nat} (I : Inv X pins σ H s) (mu : Mut (H x)) (he : e = x ∨ H e = some (.own x)) (k : ∀ b u, b ≠ e → s.heap.get? b = some u → h'.get? b = some u) (heo : ∃ u, h'.get? e = some u)
    (new : ObjOk X.prog X.w (upd H x o) h' x o) : Inv X pins σ (upd H x o) { s with heap := h', toks := t' } := I.un (Un.write mu he k heo) (I.hok.write mu he k heo new)
/-- forgetting slots, pins -/
theorem Inv.weak {σ' : List (Option V)} (I : Inv X pins σ H s) (hl : σ'.length = σ.length) (w : ∀ (i : Nat) v, σ'[i]? = some (some v) → σ[i]? = some (some v)) : Inv X pins σ' H s :=
  ⟨I.ok, I.os, I.bare, I.base, let ⟨m, hn, hl'⟩ := I.loc; ⟨m, hn, fun i x v e1 e2 e3 => hl' i x v e1 (w i v e2) e3⟩, I.cell, I.free, I.freeC, I.pin, I.hok, hl.trans I.len⟩
theorem Inv.pins_of {pins' : List (Addr × Obj)} (I : Inv X pins σ H s) (h : ∀ p ∈ pins', s.heap.get? p.1 = some p.2 ∧ H p.1 = none ∧ p.1 ≠ X.env.locals ∧ p.1 ∉ X.fs ∧ ∀ v, p.2.data ≠ .cell v) : Inv X pins' σ H s :=
  ⟨I.ok, I.os, I.bare, I.base, I.loc, I.cell, I.free, I.freeC, fun p hp => (List.mem_append.mp hp).elim (fun z => I.pin p (List.mem_append_left _ z)) (h p), I.hok, I.len⟩

theorem nodup_ix {N : List Str} (hN : N.Nodup) {i j : Nat} {x : Str} (a : N[i]? = some x) (b : N[j]? = some x) : i = j := by
  obtain ⟨h1, e1⟩ := List.getElem?_eq_some_iff.mp a
  obtain ⟨h2, e2⟩ := List.getElem?_eq_some_iff.mp b
  exact (List.getElem_inj hN).mp (e1.trans e2.symm)

/-- a name is stored; what changed -/
theorem store_ok2 {M : Model} {A : Around} {E : Value → Shared → Prop} {i : Nat} {x : Str} {v : V} {u : Value} {Q : Unit → Shared → Prop} (I : Inv X pins σ H s) (hN : X.N.Nodup) (hi : X.N[i]? = some x) (hx : Loc X.env.scope x) (r : RelV v u)
    (h : ∀ s', Inv X pins (σ.set i (some v)) H s' → (∃ a, Heap.SameBut a s.heap s'.heap ∧ (a = X.env.locals ∨ X.env.cells.lookup x = some a)) → Q () s') (hf : X.fn x = true ∨ X.env.scope.names.lookup x = some .local := by first | exact .inl rfl | exact .inr rfl | assumption) : wpAny M A (storeName X.env x u) Q E s := by
  obtain ⟨m, hn, hl⟩ := id I.loc
  have hcls : (X.env.scope.kind == .class || (X.env.scope.kind == .module && X.env.locals != X.env.globals)) = false := by rw [I.ok.kind]; rfl
  have hiσ : i < σ.length := by rw [I.len]; exact (List.getElem?_eq_some_iff.mp hi).1
  have cne := I.cne
  have tracked : ∀ {a : Addr} {h' : Heap}, (∃ o, s.heap.get? a = some o ∧ H a = none) → Heap.SameBut a s.heap h' → HOk X.prog X.w H h' := fun {a h'} ha hs b ob e => by
    obtain ⟨_, _, hfree⟩ := ha
    refine (I.hok b ob e).stay (fun c w' hc q => (hs.2 c ?_).trans q) (fun _ q => q) fun _ _ q => q
    rintro rfl
    rcases hc with rfl | hc
    · rw [hfree] at e; cases e
    · rw [hfree] at hc; cases hc
  rcases hx with hk | hk
  · refine wpAny_storeName_local hk hn (fun h' hn' hs => ?_) hcls
    obtain ⟨oL, _, _, hoL, _⟩ := id hn
    refine h _ ⟨I.ok, I.os, I.bare, ⟨fun b o e n hb hx => ?_, fun b o e n hb hx => ?_, I.base.free, fun b o e hx => ?_, I.base.tups, I.base.frzs, I.base.tbls⟩, ⟨_, hn', fun j y v' e1 e2 e3 => ?_⟩, fun y c e => ?_, I.free, I.freeC, fun p hp => ?_, tracked ⟨oL, hoL, I.free⟩ hs, by simpa using I.len⟩ ⟨_, hs, .inl rfl⟩
    · exact (hs.2 b (Nat.ne_of_lt (Nat.lt_of_lt_of_le (Heap.lt_size e) I.ok.above))).trans (I.base.keep b o e n hb hx)
    · obtain ⟨sl, e1⟩ := I.base.slot b o e n hb hx
      exact ⟨sl, (hs.2 b (Nat.ne_of_lt (Nat.lt_of_lt_of_le (Heap.lt_size e) I.ok.above))).trans e1⟩
    · obtain ⟨o', e1⟩ := I.base.there b o e hx
      exact ⟨o', (hs.2 b (Nat.ne_of_lt (Nat.lt_of_lt_of_le (Heap.lt_size e) I.ok.above))).trans e1⟩
    · by_cases hj : j = i
      · subst hj
        rw [hi] at e1; cases e1
        rw [List.getElem?_set_self hiσ] at e2
        cases e2
        exact ⟨u, r, .inl ⟨hk, by simp⟩⟩
      · rw [List.getElem?_set_ne (Ne.symm hj)] at e2
        obtain ⟨u', r', q⟩ := hl j y v' e1 e2 e3
        refine ⟨u', r', ?_⟩
        rcases q with ⟨k, e⟩ | ⟨k, c, e, z⟩
        · refine .inl ⟨k, ?_⟩
          have : y ≠ x := fun e => hj (nodup_ix hN e1 (e ▸ hi))
          simp [this, e]
        · exact .inr ⟨k, c, e, z.sameBut hs (cne y c e)⟩
    · obtain ⟨w', z⟩ := I.cell y c e
      exact ⟨w', z.sameBut hs (cne y c e)⟩
    · obtain ⟨e, n, ne, nf, d⟩ := I.pin p hp
      exact ⟨(hs.2 p.1 ne).trans e, n, ne, nf, d⟩
  · have hfn : X.fn x = true := by
      rcases hf with z | z
      · exact z
      · rw [z] at hk; cases hk
    obtain ⟨c, hc⟩ := I.ok.has x (.inl hk)
    obtain ⟨w', z⟩ := I.cell x c hc
    refine wpAny_storeName_cell I.ok.kind hk hc z (fun h' hc' hs => ?_)
    obtain ⟨oc, hoc, hocd⟩ := id z
    refine h { s with heap := h' } ⟨I.ok, I.os, I.bare, ⟨fun b o e n hb hx => ?_, fun b o e n hb hx => ?_, I.base.free, fun b o e hx => ?_, I.base.tups, I.base.frzs, I.base.tbls⟩, ⟨m, hn.sameBut hs (Ne.symm (cne x c hc)), fun j y v' e1 e2 e3 => ?_⟩, fun y c' e => ?_, I.free, I.freeC, fun p hp => ?_, tracked ⟨oc, hoc, I.freeC x c hc⟩ hs, by simpa using I.len⟩ ⟨c, hs, .inr hc⟩
    · exact (hs.2 b (Nat.ne_of_lt (Nat.lt_of_lt_of_le (Heap.lt_size e) (I.ok.cab x c hfn hc)))).trans (I.base.keep b o e n hb hx)
    · obtain ⟨sl, e1⟩ := I.base.slot b o e n hb hx
      exact ⟨sl, (hs.2 b (Nat.ne_of_lt (Nat.lt_of_lt_of_le (Heap.lt_size e) (I.ok.cab x c hfn hc)))).trans e1⟩
    · obtain ⟨o', e1⟩ := I.base.there b o e hx
      exact ⟨o', (hs.2 b (Nat.ne_of_lt (Nat.lt_of_lt_of_le (Heap.lt_size e) (I.ok.cab x c hfn hc)))).trans e1⟩
    · by_cases hj : j = i
      · subst hj
        rw [hi] at e1; cases e1
        rw [List.getElem?_set_self hiσ] at e2
        cases e2
        exact ⟨u, r, .inr ⟨.inl hk, c, hc, hc'⟩⟩
      · rw [List.getElem?_set_ne (Ne.symm hj)] at e2
        obtain ⟨u', r', q⟩ := hl j y v' e1 e2 e3
        refine ⟨u', r', ?_⟩
        rcases q with q | ⟨k, c', e, z'⟩
        · exact .inl q
        · refine .inr ⟨k, c', e, z'.sameBut hs ?_⟩
          rintro rfl
          exact hj (nodup_ix hN e1 (I.ok.inj _ _ _ e hc ▸ hi))
    · by_cases hcc : c' = c
      · subst hcc; exact ⟨_, hc'⟩
      · obtain ⟨w2, z2⟩ := I.cell y c' e
        exact ⟨w2, z2.sameBut hs hcc⟩
    · obtain ⟨e, n, ne, nf, d⟩ := I.pin p hp
      refine ⟨(hs.2 p.1 ?_).trans e, n, ne, nf, d⟩
      intro q
      rw [q, hoc] at e
      have q' : oc = p.2 := Option.some.inj e
      exact d w' (by rw [← q']; exact hocd)
theorem store_ok {M : Model} {A : Around} {E : Value → Shared → Prop} {i : Nat} {x : Str} {v : V} {u : Value} {Q : Unit → Shared → Prop} (I : Inv X pins σ H s) (hN : X.N.Nodup) (hi : X.N[i]? = some x) (hx : Loc X.env.scope x) (r : RelV v u)
    (h : ∀ s', Inv X pins (σ.set i (some v)) H s' → Q () s') (hf : X.fn x = true ∨ X.env.scope.names.lookup x = some .local := by first | exact .inl rfl | exact .inr rfl | assumption) : wpAny M A (storeName X.env x u) Q E s :=
  store_ok2 I hN hi hx r (fun s' I' _ => h s' I') hf
/-- behind a call or a block, the state as it is -/
theorem Inv.call' {s' : Shared} {ch : List Addr} (I : Inv X pins σ H s) (ho : s'.os = s.os) (u : Un (frs X.stack) ch H H' s.heap s'.heap) (hok : HOk X.prog X.w H' s'.heap) (hg : AllBare s'.gens)
    (hch : ∀ b ∈ ch, (b ∈ X.ex ∨ X.s_0.heap.objs.size ≤ b) ∧ b ≠ X.env.locals ∧ (∀ x c, X.env.cells.lookup x = some c → c ≠ b) ∧ ∀ p ∈ X.pn ++ pins, p.1 ≠ b) : Inv X pins σ H' s' := by
  obtain ⟨h', g', d', t', o'⟩ := s'
  have e : o' = s.os := ho
  subst e
  exact I.call (g' := g') (t' := t') (d' := d') u hok hg hch
end

/-! ### the judgements -/
/-- an exception: its class, its own dict's address (where it has one), the abstract heap behind it -/
abbrev XK := Value → Option Addr → Hp → Prop
abbrev St := List (Option V)
abbrev VK := V → Hp → Prop
/-- an expression's reading; a test's; an argument list's -/
abbrev TE := St → Hp → VK → Prop
abbrev TT := St → Hp → (Bool → Hp → Prop) → Prop
abbrev TA := St → Hp → (List V → Hp → Prop) → Prop
/-- what is wanted behind a statement -/
structure Ends where
  nx : St → Hp → Prop
  rt : VK
  bk : St → Hp → Prop := fun _ _ => False
  ct : St → Hp → Prop := fun _ _ => False
abbrev TS := Ends → St → Hp → Prop

def EP (X : Cx) (pins : List (Addr × Obj)) (σ : St) (Q : VK) (u : Value) (s' : Shared) : Prop := ∃ v H', Inv X pins σ H' s' ∧ RelV v u ∧ Q v H'
def TP (X : Cx) (pins : List (Addr × Obj)) (σ : St) (Q : Bool → Hp → Prop) (b : Bool) (s' : Shared) : Prop := ∃ H', Inv X pins σ H' s' ∧ Q b H'
def AP (X : Cx) (pins : List (Addr × Obj)) (σ : St) (Q : List V → Hp → Prop) (us : List Value) (s' : Shared) : Prop := ∃ vs H', Inv X pins σ H' s' ∧ Vals vs us ∧ Q vs H'
def SP (X : Cx) (pins : List (Addr × Obj)) (D : Ends) (f : Flow) (s' : Shared) : Prop :=
  match f with
  | .next => ∃ σ' H', Inv X pins σ' H' s' ∧ D.nx σ' H'
  | .brk => ∃ σ' H', Inv X pins σ' H' s' ∧ D.bk σ' H'
  | .cont => ∃ σ' H', Inv X pins σ' H' s' ∧ D.ct σ' H'
  | .ret u => ∃ v σ' H', Inv X pins σ' H' s' ∧ RelV v u ∧ D.rt v H'

def PE (X : Cx) (e : Expr) (t : TE) : Prop :=
  ∀ (pins : List (Addr × Obj)) (s : Shared) (σ : St) (H : Hp) (Q : VK), Inv X pins σ H s → t σ H Q → wpAny (model X.prog X.w) X.A (eval e X.env) (EP X pins σ Q) X.xe s
def PT (X : Cx) (e : Expr) (t : TT) : Prop :=
  ∀ (pins : List (Addr × Obj)) (s : Shared) (σ : St) (H : Hp) (Q : Bool → Hp → Prop), Inv X pins σ H s → t σ H Q → wpAny (model X.prog X.w) X.A (isTrue e X.env (eval e X.env)) (TP X pins σ Q) X.xe s
/-- a test whatever its 'whole' is (and, or) -/
def PW (X : Cx) (e : Expr) (t : TT) : Prop :=
  ∀ (whole : Sem Value) (pins : List (Addr × Obj)) (s : Shared) (σ : St) (H : Hp) (Q : Bool → Hp → Prop), Inv X pins σ H s → t σ H Q → wpAny (model X.prog X.w) X.A (isTrue e X.env whole) (TP X pins σ Q) X.xe s
theorem PW.pt {X : Cx} {e : Expr} {t : TT} (h : PW X e t) : PT X e t := h _
/-- an argument list (no star), from the left -/
def PA (X : Cx) (es : List Expr) (t : TA) : Prop :=
  ∀ (pos : Pos) (pins : List (Addr × Obj)) (s : Shared) (σ : St) (H : Hp) (Q : List V → Hp → Prop), Inv X pins σ H s → t σ H Q → wpAny (model X.prog X.w) X.A (spliced (backTo pos (starEach es X.env))) (AP X pins σ Q) X.xe s
def PS (X : Cx) (st : Stmt) (t : TS) : Prop :=
  ∀ (pins : List (Addr × Obj)) (s : Shared) (σ : St) (H : Hp) (D : Ends), Inv X pins σ H s → t D σ H → wpAny (model X.prog X.w) X.A (exec st X.env) (SP X pins D) X.xe s
def PSs (X : Cx) (st : List Stmt) (t : TS) : Prop :=
  ∀ (pins : List (Addr × Obj)) (s : Shared) (σ : St) (H : Hp) (D : Ends), Inv X pins σ H s → t D σ H → wpAny (model X.prog X.w) X.A (execs st X.env) (SP X pins D) X.xe s
/-- weaken the end -/
theorem thn {α : Type} {t : Sem α} {Q Q' : α → Shared → Prop} {M : Model} {A : Around} {E : Value → Shared → Prop} {s : Shared} (h : wpAny M A t Q E s) (hQ : ∀ a s, Q a s → Q' a s) : wpAny M A t Q' E s := wpAny_mono h hQ fun _ _ x => x
end L2

namespace L2
open PySem PySem.Spec PyProof.Rows
section
variable {X : Cx}

/-- two expressions in a row -/
theorem bin {a b : Expr} {ta tb : TE} (ha : PE X a ta) (hb : PE X b tb) {pins : List (Addr × Obj)} {s : Shared} {σ : St} {H : Hp} {R : V → V → Hp → Prop} (I : Inv X pins σ H s) (h : ta σ H fun x H1 => tb σ H1 fun y H2 => R x y H2)
    {α : Type} {Q : α → Shared → Prop} {f : Value → Value → Sem α}
    (hf : ∀ v u s2 x y H2, Inv X pins σ H2 s2 → RelV x v → RelV y u → R x y H2 → wpAny (model X.prog X.w) X.A (f v u) Q X.xe s2) :
    wpAny (model X.prog X.w) X.A (eval a X.env) (fun v s₁ => wpAny (model X.prog X.w) X.A (eval b X.env) (fun u s₂ => wpAny (model X.prog X.w) X.A (f v u) Q X.xe s₂) X.xe s₁) X.xe s := by
  refine thn (ha pins s σ H _ I h) fun v s1 ⟨x, H1, I1, r1, q1⟩ => ?_
  refine thn (hb pins s1 σ H1 _ I1 q1) fun u s2 ⟨y, H2, I2, r2, q2⟩ => ?_
  exact hf v u s2 x y H2 I2 r1 r2 q2

/-! ### names and constants -/
def tVar (i : Nat) : TE := fun σ H Q => ∃ v, σ[i]? = some (some v) ∧ Q v H
def tC (v : V) : TE := fun _ H Q => Q v H
theorem pe_var {i : Nat} {x : Str} {pos : Pos} (hN : X.N[i]? = some x) (hv : Vis X.env.scope x) (hd : (x == ("__debug__" : Str)) = false := by decide) (hcd : (x == ("__classdict__" : Str)) = false := by decide) : PE X (.Name x pos) (tVar i) := by
  intro pins s σ H Q I h
  obtain ⟨v, e, h⟩ := h
  obtain ⟨m, hn, hl⟩ := I.loc
  obtain ⟨u, r, l⟩ := hl i x v hN e hv
  have fin : EP X pins σ Q u s := ⟨v, H, I, r, h⟩
  rcases l with ⟨hk, hm⟩ | ⟨hk, c, hc, hcell⟩
  · exact wpAny_Name (wpAny_loadName_local I.ok.kind hk hn hm fin) hd
  · rcases hk with hk | hk
    · exact wpAny_Name (wpAny_loadName_cell I.ok.kind hk hc hcell fin) hd
    · exact wpAny_Name (wpAny_loadName_free I.ok.kind hk hc hcell fin hcd) hd
theorem pe_int {i j pos} : PE X (.Constant (.int i) j pos) (tC (.int i)) := fun _ _ _ H _ I h => wpAny_Constant_int ⟨.int i, H, I.tok _, ⟨_, rfl⟩, h⟩
theorem pe_bl {b j pos} : PE X (.Constant (.bool b) j pos) (tC (.bl b)) := fun _ _ _ H _ I h => Constant_bool ⟨.bl b, H, I, rfl, h⟩
theorem pe_non {j pos} : PE X (.Constant .none j pos) (tC .non) := fun _ _ _ H _ I h => Constant_none ⟨.non, H, I, rfl, h⟩
theorem pe_str {x j pos} : PE X (.Constant (.str x) j pos) (tC (.str x)) := fun _ _ _ H _ I h => Calls.Constant_str ⟨.str x, H, I.tok _, ⟨_, rfl⟩, h⟩

/-- a global name of the def -/
def Gl (X : Cx) (x : Str) : Prop := X.env.kindOf x = some .globalImplicit
theorem ld_glob {E : Value → Shared → Prop} {pins : List (Addr × Obj)} {s : Shared} {σ : St} {H : Hp} {x : Str} {u : Value} {pos : Pos} {Q : Value → Shared → Prop} (I : Inv X pins σ H s) (hg : Gl X x) (hm : X.mg x = some u) (h : Q u s)
    (hd : (x == ("__debug__" : Str)) = false := by decide) : wpAny (model X.prog X.w) X.A (eval (.Name x pos) X.env) Q E s :=
  Calls.Name_function_global I.ok.kind hg (Calls.loadGlobal_global (by rw [I.ok.glob]; exact I.mod.glob.keeps I.bk) hm h) hd
theorem ld_blt {E : Value → Shared → Prop} {pins : List (Addr × Obj)} {s : Shared} {σ : St} {H : Hp} {x : Str} {u : Value} {pos : Pos} {Q : Value → Shared → Prop} (I : Inv X pins σ H s) (hg : Gl X x) (hm : X.mg x = none) (hv : bootBuiltins x = some u) (h : Q u s)
    (hn : x ≠ "__name__" := by decide) (hd : (x == ("__debug__" : Str)) = false := by decide) : wpAny (model X.prog X.w) X.A (eval (.Name x pos) X.env) Q E s := by
  obtain ⟨mb, h1, h2⟩ := I.mod.blt
  exact Calls.Name_function_global I.ok.kind hg (Calls.loadGlobal_builtin (by rw [I.ok.glob]; exact I.mod.glob.keeps I.bk) hm (by rw [I.ok.blt]; exact h1.keeps I.bk) ((h2 x hn).trans hv) h) hd
/-- a module's constant, a class, a function, as a value -/
theorem pe_glob {x : Str} {v : V} {u : Value} {pos : Pos} (hg : Gl X x) (hm : X.mg x = some u) (r : RelV v u) (hd : (x == ("__debug__" : Str)) = false := by decide) : PE X (.Name x pos) (tC v) :=
  fun _ _ _ H _ I h => ld_glob I hg hm ⟨v, H, I, r, h⟩ hd
theorem pe_bltn {x : Str} {v : V} {u : Value} {pos : Pos} (hg : Gl X x) (hm : X.mg x = none) (hv : bootBuiltins x = some u) (r : RelV v u) (hn : x ≠ "__name__" := by decide) (hd : (x == ("__debug__" : Str)) = false := by decide) : PE X (.Name x pos) (tC v) :=
  fun _ _ _ H _ I h => ld_blt I hg hm hv ⟨v, H, I, r, h⟩ hn hd

/-! ### arithmetic -/
/-- two ints -/
def t2I (ta tb : TE) (k : Int → Int → Hp → Prop) : St → Hp → Prop := fun σ H => ta σ H fun x H1 => tb σ H1 fun y H2 => ∃ i j, x = .int i ∧ y = .int j ∧ k i j H2
def tAdd (ta tb : TE) : TE := fun σ H Q => t2I ta tb (fun i j H2 => Q (.int (i + j)) H2) σ H
def tSub (ta tb : TE) : TE := fun σ H Q => t2I ta tb (fun i j H2 => Q (.int (i - j)) H2) σ H
/-- the left factor below 2^64 -/
def tMul (ta tb : TE) : TE := fun σ H Q => t2I ta tb (fun i j H2 => (-(2 ^ 64) < i ∧ i < 2 ^ 64) ∧ Q (.int (i * j)) H2) σ H
variable {a b : Expr} {ta tb : TE} {pos : Pos}
theorem pe_add (ha : PE X a ta) (hb : PE X b tb) : PE X (.BinOp a .Add b pos) (tAdd ta tb) := by
  intro pins s σ H Q I h
  refine wpAny_BinOp (bin ha hb I h fun v u s2 x y H2 I2 rx ry q => ?_)
  obtain ⟨i, j, rfl, rfl, q⟩ := q
  obtain ⟨t, rfl⟩ := rx
  obtain ⟨t', rfl⟩ := ry
  exact add_int ⟨.int _, H2, I2.tok _, ⟨_, rfl⟩, q⟩
theorem pe_sub (ha : PE X a ta) (hb : PE X b tb) : PE X (.BinOp a .Sub b pos) (tSub ta tb) := by
  intro pins s σ H Q I h
  refine wpAny_BinOp (bin ha hb I h fun v u s2 x y H2 I2 rx ry q => ?_)
  obtain ⟨i, j, rfl, rfl, q⟩ := q
  obtain ⟨t, rfl⟩ := rx
  obtain ⟨t', rfl⟩ := ry
  exact sub_int ⟨.int _, H2, I2.tok _, ⟨_, rfl⟩, q⟩
theorem pe_mul (ha : PE X a ta) (hb : PE X b tb) : PE X (.BinOp a .Mult b pos) (tMul ta tb) := by
  intro pins s σ H Q I h
  refine wpAny_BinOp (bin ha hb I h fun v u s2 x y H2 I2 rx ry q => ?_)
  obtain ⟨i, j, rfl, rfl, ⟨q1, q2⟩, q⟩ := q
  obtain ⟨t, rfl⟩ := rx
  obtain ⟨t', rfl⟩ := ry
  exact mul_int ⟨.int _, H2, I2.tok _, ⟨_, rfl⟩, q⟩ (.of_left (intBits_le_64 q1 q2))

/-! ### comparisons -/
def PC (X : Cx) (op : CmpOp) (a b : Expr) (t : TE) : Prop :=
  ∀ (pins : List (Addr × Obj)) (s : Shared) (σ : St) (H : Hp) (Q : VK), Inv X pins σ H s → t σ H Q →
    wpAny (model X.prog X.w) X.A (eval a X.env) (fun v s₁ => wpAny (model X.prog X.w) X.A (eval b X.env) (fun u s₂ => wpAny (model X.prog X.w) X.A (compareOp op v u) (EP X pins σ Q) X.xe s₂) X.xe s₁) X.xe s
theorem nobehind (b : Expr) {op : CmpOp} (h : op ≠ .In) (h2 : op ≠ .NotIn) : behindInMarks op b = false := by
  have e1 : (op == CmpOp.In) = false := by cases op <;> first | rfl | exact absurd rfl h
  have e2 : (op == CmpOp.NotIn) = false := by cases op <;> first | rfl | exact absurd rfl h2
  cases b <;> simp [behindInMarks, e1, e2]
def tCmp (p : Int → Int → Bool) (ta tb : TE) : TE := fun σ H Q => t2I ta tb (fun i j H2 => Q (.bl (p i j)) H2) σ H
abbrev tLt : TE → TE → TE := tCmp fun i j => decide (i < j)
abbrev tLe : TE → TE → TE := tCmp fun i j => decide (i ≤ j)
abbrev tGt : TE → TE → TE := tCmp fun i j => decide (j < i)
abbrev tGe : TE → TE → TE := tCmp fun i j => decide (j ≤ i)
abbrev tEqI : TE → TE → TE := tCmp fun i j => decide (i = j)
abbrev tNeI : TE → TE → TE := tCmp fun i j => !decide (i = j)
/-- a comparison of two ints, by its rule -/
theorem pc_int {op : CmpOp} {p : Int → Int → Bool} (ha : PE X a ta) (hb : PE X b tb)
    (rule : ∀ (i j : Int) (t u : Tok) (Q : Value → Shared → Prop) (s : Shared), Q (.bool (p i j)) s → wpAny (model X.prog X.w) X.A (compareOp op (.int i t) (.int j u)) Q X.xe s) : PC X op a b (tCmp p ta tb) := by
  intro pins s σ H Q I h
  refine bin ha hb I h fun v u s2 x y H2 I2 rx ry q => ?_
  obtain ⟨i, j, rfl, rfl, q⟩ := q
  obtain ⟨t, rfl⟩ := rx
  obtain ⟨t', rfl⟩ := ry
  exact rule i j t t' _ s2 ⟨.bl _, H2, I2, rfl, q⟩
theorem pc_lt (ha : PE X a ta) (hb : PE X b tb) : PC X .Lt a b (tLt ta tb) := pc_int ha hb fun _ _ _ _ _ _ h => lt_int h
theorem pc_le (ha : PE X a ta) (hb : PE X b tb) : PC X .LtE a b (tLe ta tb) := pc_int ha hb fun _ _ _ _ _ _ h => le_int h
theorem pc_gt (ha : PE X a ta) (hb : PE X b tb) : PC X .Gt a b (tGt ta tb) := pc_int ha hb fun _ _ _ _ _ _ h => gt_int h
theorem pc_ge (ha : PE X a ta) (hb : PE X b tb) : PC X .GtE a b (tGe ta tb) := pc_int ha hb fun _ _ _ _ _ _ h => ge_int h
theorem pc_eqI (ha : PE X a ta) (hb : PE X b tb) : PC X .Eq a b (tEqI ta tb) := pc_int ha hb fun _ _ _ _ _ _ h => eq_int (by rw [Bool.beq_eq_decide_eq]; exact h)
theorem pc_neI (ha : PE X a ta) (hb : PE X b tb) : PC X .NotEq a b (tNeI ta tb) := pc_int ha hb fun _ _ _ _ _ _ h => ne_int (by rw [bne, Bool.beq_eq_decide_eq]; exact h)
/-- is None -/
def tIsN (ta : TE) : TE := fun σ H Q => ta σ H fun x H1 => Q (.bl (decide (x = .non))) H1
def tNotN (ta : TE) : TE := fun σ H Q => ta σ H fun x H1 => Q (.bl (!decide (x = .non))) H1
theorem RelV.none_iff {x : V} {v : Value} (r : RelV x v) : (v == Value.none) = decide (x = .non) := by
  cases x with
  | non => cases r; rfl
  | bl _ => cases r; rfl
  | int _ => obtain ⟨t, rfl⟩ := r; rfl
  | str _ => obtain ⟨t, rfl⟩ := r; rfl
  | byt _ => obtain ⟨t, rfl⟩ := r; rfl
  | flt _ => obtain ⟨t, rfl⟩ := r; rfl
  | ref _ => cases r; rfl
  | ty _ => cases r; rfl
theorem pc_isN {j pos'} (ha : PE X a ta) : PC X .Is a (.Constant .none j pos') (tIsN ta) := by
  intro pins s σ H Q I h
  refine thn (ha pins s σ H _ I h) fun v s1 ⟨x, H1, I1, r1, q1⟩ => ?_
  exact Constant_none (is_none_gen ⟨.bl _, H1, I1, by rw [r1.none_iff]; rfl, q1⟩)
theorem pc_notN {j pos'} (ha : PE X a ta) : PC X .IsNot a (.Constant .none j pos') (tNotN ta) := by
  intro pins s σ H Q I h
  refine thn (ha pins s σ H _ I h) fun v s1 ⟨x, H1, I1, r1, q1⟩ => ?_
  exact Constant_none (isnot_none_gen ⟨.bl _, H1, I1, by rw [r1.none_iff]; rfl, q1⟩)
/-- a comparison as a value, as a test -/
def tB (t : TE) : TT := fun σ H Q => t σ H fun x H1 => ∃ c, x = .bl c ∧ Q c H1
theorem pe_cmp {op : CmpOp} {t : TE} (h : PC X op a b t) (h1 : behindInMarks op b = false := by first | exact nobehind _ (by decide) (by decide) | rfl) : PE X (.Compare a [op] [b] pos) t := fun pins s σ H Q I hw => wpAny_Compare1 (h pins s σ H Q I hw) h1
theorem pt_cmp {op : CmpOp} {t : TE} (h : PC X op a b t) (h1 : behindInMarks op b = false := by first | exact nobehind _ (by decide) (by decide) | rfl) : PT X (.Compare a [op] [b] pos) (tB t) := by
  intro pins s σ H Q I hw
  refine wpAny_isTrue_Compare1 (thn (h pins s σ H _ I hw) fun v s1 h1 => thn h1 fun u s2 h2 => thn h2 fun c s3 ⟨x, H1, I1, r1, q1⟩ => ?_) h1
  obtain ⟨d, rfl, q⟩ := q1
  cases r1
  exact wpAny_truthy_bool ⟨H1, I1, q⟩
/-- an expression whose value is a bool, as a test -/
theorem pt_val {e : Expr} {t : TE} (h : PE X e t) (he : ∀ whole, isTrue e X.env whole = (do let v ← whole; standAt e.pos; holding [v] (truthy v)) := by intro _; rfl) : PT X e (tB t) := by
  intro pins s σ H Q I hw
  refine isTrue_plain (thn (h pins s σ H _ I hw) fun v s1 ⟨x, H1, I1, r1, q1⟩ => ?_) (he _)
  obtain ⟨d, rfl, q⟩ := q1
  cases r1
  exact wpAny_truthy_bool ⟨H1, I1, q⟩

/-! ### and, or, not -/
variable {tA tB' : TT} {rest : List Expr}
def tAnd (t u : TT) : TT := fun σ H Q => t σ H fun c H1 => if c = true then u σ H1 Q else Q false H1
def tOr (t u : TT) : TT := fun σ H Q => t σ H fun c H1 => if c = true then Q true H1 else u σ H1 Q
def tNot (t : TT) : TT := fun σ H Q => t σ H fun c H1 => Q (!c) H1
theorem pw_and1 (ha : PT X a tA) : PW X (.BoolOp .And [a] pos) tA := by
  intro wh pins s σ H Q I h
  refine isTrue_and (thn (ha pins s σ H Q I h) fun c s1 e => ?_)
  cases c with
  | true => exact isTrue_and_nil e
  | false => exact e
theorem pw_or1 (ha : PT X a tA) : PW X (.BoolOp .Or [a] pos) tA := by
  intro wh pins s σ H Q I h
  refine isTrue_or (thn (ha pins s σ H Q I h) fun c s1 e => ?_)
  cases c with
  | false => exact isTrue_or_nil e
  | true => exact e
theorem pw_and (ha : PT X a tA) (hb : PW X (.BoolOp .And (b :: rest) pos) tB') : PW X (.BoolOp .And (a :: b :: rest) pos) (tAnd tA tB') := by
  intro wh pins s σ H Q I h
  refine isTrue_and (thn (ha pins s σ H _ I h) fun c s1 ⟨H1, I1, q1⟩ => ?_)
  cases c with
  | true => exact hb wh pins s1 σ H1 Q I1 q1
  | false => exact ⟨H1, I1, q1⟩
theorem pw_or (ha : PT X a tA) (hb : PW X (.BoolOp .Or (b :: rest) pos) tB') : PW X (.BoolOp .Or (a :: b :: rest) pos) (tOr tA tB') := by
  intro wh pins s σ H Q I h
  refine isTrue_or (thn (ha pins s σ H _ I h) fun c s1 ⟨H1, I1, q1⟩ => ?_)
  cases c with
  | true => exact ⟨H1, I1, q1⟩
  | false => exact hb wh pins s1 σ H1 Q I1 q1
theorem pt_not (ha : PT X a tA) : PT X (.UnaryOp .Not a pos) (tNot tA) := by
  intro pins s σ H Q I h
  exact isTrue_not (ha pins s σ H (fun c H1 => Q (!c) H1) I h)
/-- .. as values (bools) -/
def tAndV (ta tb : TE) : TE := fun σ H Q => ta σ H fun x H1 => ∃ c, x = .bl c ∧ if c = true then tb σ H1 Q else Q (.bl false) H1
def tOrV (ta tb : TE) : TE := fun σ H Q => ta σ H fun x H1 => ∃ c, x = .bl c ∧ if c = true then Q (.bl true) H1 else tb σ H1 Q
def tNotV (ta : TE) : TE := fun σ H Q => ta σ H fun x H1 => ∃ c, x = .bl c ∧ Q (.bl (!c)) H1
theorem pe_one {op} {t : TE} (h : PE X a t) : PE X (.BoolOp op [a] pos) t := fun pins s σ H Q I hw => BoolOp_one (h pins s σ H Q I hw)
theorem pe_and (ha : PE X a ta) (hb : PE X (.BoolOp .And (b :: rest) pos) tb) : PE X (.BoolOp .And (a :: b :: rest) pos) (tAndV ta tb) := by
  intro pins s σ H Q I h
  refine BoolOp_and (thn (ha pins s σ H _ I h) fun v s1 ⟨x, H1, I1, r1, q1⟩ => ?_)
  obtain ⟨c, rfl, q1⟩ := q1
  cases r1
  refine wpAny_truthy_bool ?_
  cases c with
  | true => exact hb pins s1 σ H1 Q I1 q1
  | false => exact ⟨.bl false, H1, I1, rfl, q1⟩
theorem pe_or (ha : PE X a ta) (hb : PE X (.BoolOp .Or (b :: rest) pos) tb) : PE X (.BoolOp .Or (a :: b :: rest) pos) (tOrV ta tb) := by
  intro pins s σ H Q I h
  refine BoolOp_or (thn (ha pins s σ H _ I h) fun v s1 ⟨x, H1, I1, r1, q1⟩ => ?_)
  obtain ⟨c, rfl, q1⟩ := q1
  cases r1
  refine wpAny_truthy_bool ?_
  cases c with
  | false => exact hb pins s1 σ H1 Q I1 q1
  | true => exact ⟨.bl true, H1, I1, rfl, q1⟩
theorem pe_not (ha : PE X a ta) : PE X (.UnaryOp .Not a pos) (tNotV ta) := by
  intro pins s σ H Q I h
  refine UnaryOp_ (thn (ha pins s σ H _ I h) fun v s1 ⟨x, H1, I1, r1, q1⟩ => ?_)
  obtain ⟨c, rfl, q1⟩ := q1
  cases r1
  exact not_of (wpAny_truthy_bool ⟨.bl (!c), H1, I1, rfl, q1⟩)
/-- a if t else b -/
def tIf (t : TT) (ta tb : TE) : TE := fun σ H Q => t σ H fun c H1 => if c = true then ta σ H1 Q else tb σ H1 Q
theorem pe_ifExp {c : Expr} (hc : PT X c tA) (ha : PE X a ta) (hb : PE X b tb) : PE X (.IfExp c a b pos) (tIf tA ta tb) := by
  intro pins s σ H Q I h
  refine wpAny_IfExp (thn (hc pins s σ H _ I h) fun d s1 ⟨H1, I1, q1⟩ => ?_)
  cases d with
  | true => exact ha pins s1 σ H1 Q I1 q1
  | false => exact hb pins s1 σ H1 Q I1 q1
end
end L2

namespace L2
open PySem PySem.Spec PyProof.Rows

/-! ### a list, a tuple that is read: tracked, frozen, or an object of the module -/
def SqL (K : PySem.W.Frag) (H : Hp) (a : Addr) (xs : List V) : Prop :=
  Rd H a (.lst xs) ∨
    ∃ (o : Obj) (its : Array Value) (n : Nat), K.lookup a = some o ∧ o.cls = .type "list" ∧ o.dict = none ∧ o.data = .seq its n ∧ its.size ≤ sizeLine ∧ Vals xs its.toList
def SqT (K : PySem.W.Frag) (H : Hp) (a : Addr) (xs : List V) : Prop :=
  Rd H a (.tup xs) ∨
    ∃ (o : Obj) (its : Array Value) (n : Nat), K.lookup a = some o ∧ o.cls = .type "tuple" ∧ o.data = .seq its n ∧ its.size ≤ sizeLine ∧ Vals xs its.toList
def absV : Value → Option V
  | .none => some .non
  | .bool b => some (.bl b)
  | .int i _ => some (.int i)
  | .str x _ => some (.str x)
  | .bytes b _ => some (.byt b)
  | .float b _ => some (.flt b)
  | .ref a => some (.ref a)
  | .type n => some (.ty n)
  | _ => none
theorem RelV.abs {x : V} {u : Value} (r : RelV x u) : absV u = some x := by
  cases x with
  | non => cases r; rfl
  | bl _ => cases r; rfl
  | int _ => obtain ⟨t, rfl⟩ := r; rfl
  | str _ => obtain ⟨t, rfl⟩ := r; rfl
  | byt _ => obtain ⟨t, rfl⟩ := r; rfl
  | flt _ => obtain ⟨t, rfl⟩ := r; rfl
  | ref _ => cases r; rfl
  | ty _ => cases r; rfl
theorem RelV.inj {x y : V} {u : Value} (r : RelV x u) (q : RelV y u) : x = y := Option.some.inj (r.abs.symm.trans q.abs)
theorem Vals.inj : ∀ {xs ys : List V} {us : List Value}, Vals xs us → Vals ys us → xs = ys
  | _, _, _, .nil, .nil => rfl
  | _, _, _, .cons r t, .cons r' t' => by rw [r.inj r', Vals.inj t t']
section
variable {X : Cx} {pins : List (Addr × Obj)} {σ : St} {H : Hp} {s : Shared} {a : Addr} {xs ys : List V}
theorem SqL.of {K : PySem.W.Frag} (h : H a = some (.lst xs)) : SqL K H a xs := .inl (.inl h)
theorem SqT.of {K : PySem.W.Frag} (h : H a = some (.tup xs)) : SqT K H a xs := .inl (.inl h)
theorem Inv.list (I : Inv X pins σ H s) (h : SqL X.K H a xs) : ∃ its : List Value, Vals xs its ∧ PlainL s.heap a its.toArray ∧ xs.length ≤ sizeLine := by
  rcases h with h | ⟨o, its, n, hk, hc, hd, hs, hz, r⟩
  · obtain ⟨z, its, n, r, e⟩ := h.ok I.hok
    exact ⟨its, r, ⟨_, n, e, rfl, rfl, rfl⟩, z⟩
  · refine ⟨its.toList, r, ⟨o, n, I.kIn a o hk, hc, hd, by simpa using hs⟩, ?_⟩
    have e := r.length
    simp only [Array.length_toList] at e
    omega
theorem Inv.tuple (I : Inv X pins σ H s) (h : SqT X.K H a xs) : ∃ its : List Value, Vals xs its ∧ IsTup s.heap a its.toArray ∧ xs.length ≤ sizeLine := by
  rcases h with h | ⟨o, its, n, hk, hc, hs, hz, r⟩
  · obtain ⟨z, its, r, p⟩ := h.ok I.hok
    exact ⟨its, r, p, z⟩
  · refine ⟨its.toList, r, ⟨o, I.kIn a o hk, hc, n, by simpa using hs⟩, ?_⟩
    have e := r.length
    simp only [Array.length_toList] at e
    omega
theorem Inv.list_inj (I : Inv X pins σ H s) (h : SqL X.K H a xs) (h' : SqL X.K H a ys) : xs = ys := by
  obtain ⟨its, r, ⟨o, n, e, _, _, d⟩, _⟩ := I.list h
  obtain ⟨its', r', ⟨o', n', e', _, _, d'⟩, _⟩ := I.list h'
  rw [e] at e'; cases e'
  rw [d] at d'
  injection d' with d1 _
  have : its = its' := by simpa using congrArg Array.toList d1
  subst this
  exact r.inj r'
theorem Inv.tuple_inj (I : Inv X pins σ H s) (h : SqT X.K H a xs) (h' : SqT X.K H a ys) : xs = ys := by
  obtain ⟨its, r, ⟨o, e, _, n, d⟩, _⟩ := I.tuple h
  obtain ⟨its', r', ⟨o', e', _, n', d'⟩, _⟩ := I.tuple h'
  rw [e] at e'; cases e'
  rw [d] at d'
  injection d' with d1 _
  have : its = its' := by simpa using congrArg Array.toList d1
  subst this
  exact r.inj r'
end

/-! ### another wish about exceptions -/
abbrev Cx.wish (X : Cx) (E : Value → Shared → Prop) : Cx := { X with xe := E }
/-- no exception leaves -/
abbrev Cx.nox (X : Cx) : Cx := X.wish fun _ _ => False
theorem Cx.Ok.wish {X : Cx} (ok : X.Ok) (E : Value → Shared → Prop) : (X.wish E).Ok :=
  ⟨ok.mod, ok.kind, ok.glob, ok.blt, ok.above, ok.inj, ok.has, ok.cab, ok.hd, ok.frames, ok.stk, ok.exf, ok.bs, ok.bsz, ok.noex, ok.exfs, ok.funs, ok.frf⟩
theorem Cx.Ok.unwish {X : Cx} {E : Value → Shared → Prop} (ok : (X.wish E).Ok) : X.Ok :=
  ⟨ok.mod, ok.kind, ok.glob, ok.blt, ok.above, ok.inj, ok.has, ok.cab, ok.hd, ok.frames, ok.stk, ok.exf, ok.bs, ok.bsz, ok.noex, ok.exfs, ok.funs, ok.frf⟩
section
variable {X : Cx} {pins : List (Addr × Obj)} {σ : St} {H : Hp} {s : Shared} {E : Value → Shared → Prop}
theorem Inv.wish (I : Inv X pins σ H s) (E : Value → Shared → Prop) : Inv (X.wish E) pins σ H s := ⟨I.ok.wish E, I.os, I.bare, I.base, I.loc, I.cell, I.free, I.freeC, I.pin, I.hok, I.len⟩
theorem Inv.unwish (I : Inv (X.wish E) pins σ H s) : Inv X pins σ H s := ⟨I.ok.unwish, I.os, I.bare, I.base, I.loc, I.cell, I.free, I.freeC, I.pin, I.hok, I.len⟩
theorem SP.unwish {D : Ends} {f : Flow} {s' : Shared} (h : SP (X.wish E) pins D f s') : SP X pins D f s' := by
  cases f with
  | next => obtain ⟨σ', H', I, q⟩ := h; exact ⟨σ', H', I.unwish, q⟩
  | brk => obtain ⟨σ', H', I, q⟩ := h; exact ⟨σ', H', I.unwish, q⟩
  | cont => obtain ⟨σ', H', I, q⟩ := h; exact ⟨σ', H', I.unwish, q⟩
  | ret u => obtain ⟨v, σ', H', I, r, q⟩ := h; exact ⟨v, σ', H', I.unwish, r, q⟩
theorem PE.nox {e : Expr} {t : TE} (h : PE X.nox e t) : PE X e t := fun pins s σ H Q I hw =>
  wpAny_mono (h pins s σ H Q (I.wish _) hw) (fun _ _ ⟨v, H', I', r, q⟩ => ⟨v, H', I'.unwish, r, q⟩) fun _ _ z => False.elim z
theorem PT.nox {e : Expr} {t : TT} (h : PT X.nox e t) : PT X e t := fun pins s σ H Q I hw =>
  wpAny_mono (h pins s σ H Q (I.wish _) hw) (fun _ _ ⟨H', I', q⟩ => ⟨H', I'.unwish, q⟩) fun _ _ z => False.elim z
theorem PSs.nox {st : List Stmt} {t : TS} (h : PSs X.nox st t) : PSs X st t := fun pins s σ H D I hw =>
  wpAny_mono (h pins s σ H D (I.wish _) hw) (fun _ _ q => q.unwish) fun _ _ z => False.elim z
end

/-! ### blocks and small statements -/
section
variable {X : Cx} {st : Stmt} {rest : List Stmt} {t u : TS} {e : Expr} {te : TE} {pos : Pos}
def tNext : TS := fun D σ H => D.nx σ H
def tSeq (t u : TS) : TS := fun D σ H => t { D with nx := u D } σ H
theorem pss_nil : PSs X [] tNext := fun _ _ σ H _ I h => wpAny_execs_nil ⟨σ, H, I, h⟩
theorem pss_cons (h1 : PS X st t) (h2 : PSs X rest u) : PSs X (st :: rest) (tSeq t u) := by
  intro pins s σ H D I h
  refine wpAny_execs_cons (thn (h1 pins s σ H { D with nx := u D } I h) fun f s1 q => ?_)
  cases f with
  | next =>
    obtain ⟨σ', H', I', q⟩ := q
    exact h2 pins s1 σ' H' D I' q
  | ret v => exact q
  | brk => exact q
  | cont => exact q
theorem pss_one (h1 : PS X st t) : PSs X [st] t := by
  intro pins s σ H D I h
  refine wpAny_execs_cons (thn (h1 pins s σ H D I h) fun f s1 q => ?_)
  cases f with
  | next => exact wpAny_execs_nil q
  | ret v => exact q
  | brk => exact q
  | cont => exact q
def tBreak : TS := fun D σ H => D.bk σ H
def tCont : TS := fun D σ H => D.ct σ H
theorem ps_pass : PS X (.Pass pos) tNext := fun _ _ σ H _ I h => wpAny_Pass ⟨σ, H, I, h⟩
theorem ps_break : PS X (.Break pos) tBreak := fun _ _ σ H _ I h => wpAny_Break ⟨σ, H, I, h⟩
theorem ps_continue : PS X (.Continue pos) tCont := fun _ _ σ H _ I h => wpAny_Continue ⟨σ, H, I, h⟩
/-- in a def's body nothing is shown -/
theorem Inv.quiet {pins : List (Addr × Obj)} {σ : St} {H : Hp} {s : Shared} (I : Inv X pins σ H s) : interactive X.env = false := by simp [interactive, I.ok.kind]
/-- a docstring -/
theorem ps_doc {x j pos pos'} : PS X (.Expr (.Constant (.str x) j pos) pos') tNext := fun _ s σ H _ I h => wpAny_Expr (Calls.Constant_str (show SP X _ _ .next { s with toks := s.toks + 1 } from ⟨σ, H, I.tok _, h⟩)) I.quiet
/-- an expression whose value is dropped -/
def tDrop (te : TE) : TS := fun D σ H => te σ H fun _ H1 => D.nx σ H1
theorem ps_expr (he : PE X e te) (hs : swapsWith e none pos.line X.env = pure false := by rfl) : PS X (.Expr e pos) (tDrop te) := by
  intro pins s σ H D I h
  exact wpAny_Expr_any (thn (he pins s σ H _ I h) fun v s1 ⟨x, H1, I1, r1, q1⟩ => ⟨σ, H1, I1, q1⟩) I.quiet hs
def tRet (te : TE) : TS := fun D σ H => te σ H D.rt
theorem ps_ret (he : PE X e te) : PS X (.Return (some e) pos) (tRet te) := by
  intro pins s σ H D I h
  exact wpAny_Return_some (thn (he pins s σ H _ I h) fun v s1 ⟨x, H1, I1, r1, q1⟩ => ⟨x, σ, H1, I1, r1, q1⟩)
def tRetN : TS := fun D _ H => D.rt .non H
theorem ps_retN : PS X (.Return none pos) tRetN := fun _ _ σ H _ I h => wpAny_Return_none ⟨.non, σ, H, I, rfl, h⟩
def tIfS (c : TT) (t u : TS) : TS := fun D σ H => c σ H fun b H1 => if b = true then t D σ H1 else u D σ H1
theorem ps_if {c : Expr} {a b : List Stmt} {tc : TT} (hc : PT X c tc) (ha : PSs X a t) (hb : PSs X b u) : PS X (.If c a b pos) (tIfS tc t u) := by
  intro pins s σ H D I h
  refine wpAny_If (thn (hc pins s σ H _ I h) fun d s1 ⟨H1, I1, q1⟩ => ?_)
  cases d with
  | true => exact ha pins s1 σ H1 D I1 q1
  | false => exact hb pins s1 σ H1 D I1 q1
/-- code that the proof never comes to -/
def tNever : TS := fun _ _ _ => False
theorem ps_never : PS X st tNever := fun _ _ _ _ _ _ h => h.elim
theorem pss_never {sts : List Stmt} : PSs X sts tNever := fun _ _ _ _ _ _ h => h.elim
end

/-! ### targets -/
abbrev TG := V → St → Hp → (St → Hp → Prop) → Prop
abbrev TGs := List V → St → Hp → (St → Hp → Prop) → Prop
def PG (X : Cx) (target : Expr) (t : TG) : Prop :=
  ∀ (pins : List (Addr × Obj)) (s : Shared) (σ : St) (H : Hp) (v : V) (u : Value) (Q : St → Hp → Prop), Inv X pins σ H s → RelV v u → t v σ H Q →
    wpAny (model X.prog X.w) X.A (assign target X.env u) (fun _ s' => ∃ σ' H', Inv X pins σ' H' s' ∧ Q σ' H') X.xe s
/-- several targets, one after another -/
def PGs (X : Cx) (ts : List Expr) (t : TGs) : Prop :=
  ∀ (pins : List (Addr × Obj)) (s : Shared) (σ : St) (H : Hp) (vs : List V) (us : List Value) (Q : St → Hp → Prop), Inv X pins σ H s → Vals vs us → t vs σ H Q →
    wpAny (model X.prog X.w) X.A (assignInOrder ((assignEach ts X.env).map (·.2)) us) (fun _ s' => ∃ σ' H', Inv X pins σ' H' s' ∧ Q σ' H') X.xe s
/-- o[i] = v, by values -/
abbrev TSet := V → V → V → Hp → (Hp → Prop) → Prop
def PSet (X : Cx) (t : TSet) : Prop :=
  ∀ (pins : List (Addr × Obj)) (s : Shared) (σ : St) (H : Hp) (o i v : V) (ov iv u : Value) (Q : Hp → Prop), Inv X pins σ H s → RelV o ov → RelV i iv → RelV v u → t o i v H Q →
    wpAny (model X.prog X.w) X.A (setItem ov iv u) (fun _ s' => ∃ H', Inv X pins σ H' s' ∧ Q H') X.xe s
/-- a op= b, by values -/
abbrev TIp := V → V → Hp → VK → Prop
def PIp (X : Cx) (op : Operator) (t : TIp) : Prop :=
  ∀ (pins : List (Addr × Obj)) (s : Shared) (σ : St) (H : Hp) (x y : V) (v u : Value) (Q : VK), Inv X pins σ H s → RelV x v → RelV y u → t x y H Q →
    wpAny (model X.prog X.w) X.A (inplaceOp op v u) (EP X pins σ Q) X.xe s
section
variable {X : Cx} {pos : Pos}
def gName (i : Nat) : TG := fun v σ H Q => Q (σ.set i (some v)) H
theorem pg_name {i : Nat} {x : Str} (hN : X.N.Nodup) (hi : X.N[i]? = some x) (hx : Loc X.env.scope x) (hf : X.fn x = true ∨ X.env.scope.names.lookup x = some .local := by first | exact .inl rfl | exact .inr rfl | assumption) : PG X (.Name x pos) (gName i) := by
  intro pins s σ H v u Q I r h
  exact wpAny_assign_Name (store_ok I hN hi hx r (fun s' I' => ⟨_, H, I', h⟩) hf)
def gNil : TGs := fun vs σ H Q => vs = [] ∧ Q σ H
def gCons (t : TG) (u : TGs) : TGs := fun vs σ H Q => ∃ v r, vs = v :: r ∧ t v σ H fun σ' H' => u r σ' H' Q
theorem pgs_nil : PGs X [] gNil := by
  intro pins s σ H vs us Q I r h
  obtain ⟨e, h⟩ := h
  subst e
  cases r
  exact assignInOrder_nil ⟨σ, H, I, h⟩
theorem pgs_cons {e : Expr} {es : List Expr} {t : TG} {u : TGs} (h1 : PG X e t) (h2 : PGs X es u)
    (hs : (assignEach (e :: es) X.env).map (·.2) = assign e X.env :: (assignEach es X.env).map (·.2) := by rfl) : PGs X (e :: es) (gCons t u) := by
  intro pins s σ H vs us Q I r h
  obtain ⟨v, vr, e1, h⟩ := h
  subst e1
  cases r with
  | cons r rr =>
    rw [hs]
    refine assignInOrder_cons (thn (h1 pins s σ H _ _ _ I r h) fun _ s1 ⟨σ1, H1, I1, q1⟩ => ?_)
    exact h2 pins s1 σ1 H1 _ _ Q I1 rr q1
/-- (a, b, ..) = a tuple of that length -/
def gTup (K : PySem.W.Frag) (n : Nat) (t : TGs) : TG := fun v σ H Q => ∃ a xs, v = .ref a ∧ SqT K H a xs ∧ xs.length = n ∧ t xs σ H Q
theorem pg_tup {es : List Expr} {k : Nat} {t : TGs} {n : Nat} (hc : X.calm = true) (h : PGs X es t)
    (hn : (assignEach es X.env).length = n := by rfl) (hst : (assignEach es X.env).findIdx? (·.1) = none := by rfl) : PG X (.Tuple es k pos) (gTup X.K n t) := by
  intro pins s σ H v u Q I r hw
  obtain ⟨a, xs, e1, hq, hl, hw⟩ := hw
  subst e1
  cases r
  obtain ⟨its, rv, ht, hz⟩ := I.tuple hq
  refine assign_Tuple_tuple (I.ok.hd hc) ht (by simp [hn, ← hl, rv.length]) hst fun h' hx => ?_
  have I1 : Inv X pins σ H { s with heap := h' } := I.kept (t' := s.toks) fun b o e => hx b o (Nat.ne_of_lt (Heap.lt_size e)) e
  exact h pins _ σ H xs _ Q I1 (by simpa using rv) hw
/-- o[i] = .. -/
def gSub (to ti : TE) (t : TSet) : TG := fun v σ H Q => to σ H fun o H1 => ti σ H1 fun i H2 => t o i v H2 fun H3 => Q σ H3
theorem pg_sub {o i : Expr} {to ti : TE} {t : TSet} (ho : PE X o to) (hi : PE X i ti) (hs : PSet X t)
    (ha : ∀ v, assign (.Subscript o i pos) X.env v = (do
      let ov ← holding [v] (eval o X.env)
      let iv ← holding [v, ov] (eval i X.env)
      standAt pos
      holding [v, ov, iv] (setItem ov iv v)
      release [v, ov, iv] []) := by intro _; rfl) : PG X (.Subscript o i pos) (gSub to ti t) := by
  intro pins s σ H v u Q I r h
  rw [ha]
  refine wpAny_bind (wpAny_holding (thn (ho pins s σ H _ I h) fun ov s1 ⟨x, H1, I1, r1, q1⟩ => ?_))
  refine wpAny_bind (wpAny_holding (thn (hi pins s1 σ H1 _ I1 q1) fun iv s2 ⟨y, H2, I2, r2, q2⟩ => ?_))
  refine wpAny_bind (wpAny_standAt (wpAny_bind (wpAny_holding (thn (hs pins s2 σ H2 x y v ov iv u _ I2 r1 r2 r q2) fun _ s3 ⟨H3, I3, q3⟩ => ?_))))
  exact wpAny_release ⟨σ, H3, I3, q3⟩
/-- target = value -/
def tAsg (te : TE) (g : TG) : TS := fun D σ H => te σ H fun x H1 => g x σ H1 D.nx
theorem ps_asg {tg e : Expr} {te : TE} {g : TG} (he : PE X e te) (hg : PG X tg g) (hs : swapsWithSole [tg] e pos.line X.env = pure false := by rfl) (hw : swappedStores [tg] e X.env = pure none := by rfl)
    (h1 : (assignEach [tg] X.env).map (·.2) = [assign tg X.env] := by rfl) : PS X (.Assign [tg] e pos) (tAsg te g) := by
  intro pins s σ H D I h
  refine wpAny_Assign_stores (thn (he pins s σ H _ I h) fun v s1 ⟨x, H1, I1, r1, q1⟩ => ?_) hs hw
  rw [h1]
  exact thn (hg pins s1 σ H1 x v _ I1 r1 q1) fun _ s2 q => q
/-- name = value -/
theorem ps_set {i : Nat} {x : Str} {e : Expr} {te : TE} {pos' : Pos} (hN : X.N.Nodup) (hi : X.N[i]? = some x) (hx : Loc X.env.scope x) (he : PE X e te) (hs : swapsWith e (some (.Name x pos')) pos.line X.env = pure false := by rfl) (hf : X.fn x = true ∨ X.env.scope.names.lookup x = some .local := by first | exact .inl rfl | exact .inr rfl | assumption) :
    PS X (.Assign [.Name x pos'] e pos) (tAsg te (gName i)) := by
  intro pins s σ H D I h
  refine wpAny_Assign_Name (thn (he pins s σ H _ I h) fun v s1 ⟨y, H1, I1, r1, q1⟩ => ?_) hs
  exact store_ok I1 hN hi hx r1 (fun s2 I2 => ⟨_, H1, I2, q1⟩) hf
/-- a, b = x, y with plain local names: stored from the right; the pair itself is not tracked (the opening rows as in PyProof/Rows/TupAssign.lean:23) -/
def tPar (i j : Nat) (ta : TA) : TS := fun D σ H => ta σ H fun vs H1 => ∃ v w, vs = [v, w] ∧ D.nx ((σ.set i (some v)).set j (some w)) H1
theorem ps_par {i j : Nat} {x y : Str} {a b : Expr} {ta : TA} {px py pt : Pos} {kt k2 pt2} (hc : X.calm = true) (hN : X.N.Nodup) (hi : X.N[i]? = some x) (hj : X.N[j]? = some y) (hij : i ≠ j)
    (hx : X.env.scope.names.lookup x = some .local) (hy : X.env.scope.names.lookup y = some .local) (ha : PA X [a, b] ta)
    (hw : swappedStores [.Tuple [.Name x px, .Name y py] kt pt] (.Tuple [a, b] k2 pt2) X.env = pure (some [x, y]))
    (hs : swapsWithSole [.Tuple [.Name x px, .Name y py] kt pt] (.Tuple [a, b] k2 pt2) pos.line X.env = pure false := by rfl) :
    PS X (.Assign [.Tuple [.Name x px, .Name y py] kt pt] (.Tuple [a, b] k2 pt2) pos) (tPar i j ta) := by
  intro pins s σ H D I h
  rw [exec_Assign_arm]
  refine wpAny_bind (wpAny_standAt ?_)
  rw [hs]
  refine wpAny_bind (wpAny_pure ?_)
  rw [if_neg (by decide)]
  refine wpAny_bind (Tuple_ (thn (ha _ pins s σ H _ I h) fun us s1 ⟨vs, H1, I1, r1, q1⟩ => ?_))
  obtain ⟨v, w, e1, q1⟩ := q1
  subst e1
  obtain ⟨u1, u2, rfl, rv, rw'⟩ : ∃ u1 u2, us = [u1, u2] ∧ RelV v u1 ∧ RelV w u2 := by
    cases r1 with
    | cons p q =>
      cases q with
      | cons p' q' =>
        cases q'
        exact ⟨_, _, rfl, p, p'⟩
  refine wpAny_newObj_type ?_ (by show 2 ≤ sizeLine; decide)
  have I2 : Inv X pins σ H1 { s1 with heap := s1.heap.push { cls := .type "tuple", data := .seq [u1, u2].toArray } } := I1.kept (t' := s1.toks) fun b o e => Heap.get?_push_of_some _ e
  rw [hw]
  refine wpAny_bind (wpAny_pure ?_)
  show wpAny (model X.prog X.w) X.A (do rule "assign.swapped-stores"; let items ← unpackItems (.ref s1.heap.objs.size) 2 none; assignInOrder [fun v => bindName X.env y v, fun v => bindName X.env x v] items.reverse; pure Flow.next) _ _ _
  refine wpAny_bind (wpAny_rule (wpAny_bind (unpackItems_tuple (items := #[u1, u2]) (I.ok.hd hc) (IsTup.new s1.heap _) fun h' hx' => ?_)))
  have I3 := I2.kept (h' := h') (t' := s1.toks) fun b o e => hx' b o (Nat.ne_of_lt (Heap.lt_size e)) e
  show wpAny _ _ (assignInOrder [fun v => bindName X.env y v, fun v => bindName X.env x v] [u2, u1] >>= fun _ => pure Flow.next) _ _ _
  refine wpAny_bind (assignInOrder_cons (wpAny_bindName (store_ok I3 hN hj (.inl hy) rw' (fun s2 I4 => ?_) (.inr hy))))
  refine assignInOrder_cons (wpAny_bindName (store_ok I4 hN hi (.inl hx) rv (fun s3 I5 => assignInOrder_nil (wpAny_pure ?_)) (.inr hx)))
  rw [List.set_comm _ _ (Ne.symm hij)] at I5
  exact ⟨_, H1, I5, q1⟩
/-- name op= e -/
def tAug (i : Nat) (te : TE) (ti : TIp) : TS := fun D σ H => ∃ x, σ[i]? = some (some x) ∧ te σ H fun y H1 => ti x y H1 fun z H2 => D.nx (σ.set i (some z)) H2
theorem ps_aug {i : Nat} {x : Str} {e : Expr} {te : TE} {op : Operator} {ti : TIp} {pos' : Pos} (hN : X.N.Nodup) (hi : X.N[i]? = some x) (hx : Loc X.env.scope x) (he : PE X e te) (ho : PIp X op ti) (hf : X.fn x = true ∨ X.env.scope.names.lookup x = some .local := by first | exact .inl rfl | exact .inr rfl | assumption) :
    PS X (.AugAssign (.Name x pos') op e pos) (tAug i te ti) := by
  intro pins s σ H D I h
  obtain ⟨v, e1, h⟩ := h
  obtain ⟨m, hn, hl⟩ := I.loc
  have vis : Vis X.env.scope x := by rcases hx with k | k; exact .inl k; exact .inr (.inl k)
  obtain ⟨u, r, l⟩ := hl i x v hi e1 vis
  refine wpAny_AugAssign_Name ?_
  have go : wpAny (model X.prog X.w) X.A (eval e X.env) (fun w s₂ => wpAny (model X.prog X.w) X.A (inplaceOp op u w) (fun r s₃ => wpAny (model X.prog X.w) X.A (storeName X.env x r) (fun _ => SP X pins D .next) X.xe s₃) X.xe s₂) X.xe s := by
    refine thn (he pins s σ H _ I h) fun w s1 ⟨y, H1, I1, r1, q1⟩ => ?_
    refine thn (ho pins s1 σ H1 v y u w _ I1 r r1 q1) fun z s2 ⟨zv, H2, I2, r2, q2⟩ => ?_
    exact store_ok I2 hN hi hx r2 (fun s3 I3 => ⟨_, H2, I3, q2⟩) hf
  rcases l with ⟨hk, hm⟩ | ⟨hk, c, hc, hcell⟩
  · exact wpAny_loadName_local I.ok.kind hk hn hm go
  · rcases hk with hk | hk
    · exact wpAny_loadName_cell I.ok.kind hk hc hcell go
    · rcases hx with k | k
      · have : X.env.scope.names.lookup x = some .free := hk
        rw [k] at this; cases this
      · have : X.env.scope.names.lookup x = some .free := hk
        rw [k] at this; cases this
/-- o[i] op= e -/
def tAugS (to ti te : TE) (tget : V → V → Hp → VK → Prop) (tip : TIp) (tset : TSet) : TS := fun D σ H => to σ H fun o H1 => ti σ H1 fun i H2 => tget o i H2 fun x H3 => te σ H3 fun y H4 => tip x y H4 fun z H5 => tset o i z H5 fun H6 => D.nx σ H6
/-- o[i], by values -/
def PGet (X : Cx) (t : V → V → Hp → VK → Prop) : Prop :=
  ∀ (pins : List (Addr × Obj)) (s : Shared) (σ : St) (H : Hp) (o i : V) (ov iv : Value) (Q : VK), Inv X pins σ H s → RelV o ov → RelV i iv → t o i H Q →
    wpAny (model X.prog X.w) X.A (getItem ov iv) (EP X pins σ Q) X.xe s
theorem ps_augS {o i e : Expr} {to ti te : TE} {tget : V → V → Hp → VK → Prop} {tip : TIp} {tset : TSet} {op : Operator} {tpos : Pos} (ho : PE X o to) (hi : PE X i ti) (hg : PGet X tget) (he : PE X e te) (hp : PIp X op tip) (hs : PSet X tset)
    (ha : ∀ ov iv new, augStore i ov iv new = (do holding [new, ov, iv] (setItem ov iv new); release [new, ov, iv] []; pure .next) := by intros; rfl) : PS X (.AugAssign (.Subscript o i tpos) op e pos) (tAugS to ti te tget tip tset) := by
  intro pins s σ H D I h
  refine wpAny_AugAssign_SubscriptAny (thn (ho pins s σ H _ I h) fun ov s1 ⟨x1, H1, I1, r1, q1⟩ => ?_) ha
  refine thn (hi pins s1 σ H1 _ I1 q1) fun iv s2 ⟨x2, H2, I2, r2, q2⟩ => ?_
  refine thn (hg pins s2 σ H2 x1 x2 ov iv _ I2 r1 r2 q2) fun old s3 ⟨x3, H3, I3, r3, q3⟩ => ?_
  refine thn (he pins s3 σ H3 _ I3 q3) fun v s4 ⟨x4, H4, I4, r4, q4⟩ => ?_
  refine thn (hp pins s4 σ H4 x3 x4 old v _ I4 r3 r4 q4) fun new s5 ⟨x5, H5, I5, r5, q5⟩ => ?_
  exact thn (hs pins s5 σ H5 x1 x2 x5 ov iv new _ I5 r1 r2 r5 q5) fun _ s6 ⟨H6, I6, q6⟩ => ⟨σ, H6, I6, q6⟩
/-- ints -/
def ipI (f : Int → Int → Int) : TIp := fun x y H Q => ∃ i j, x = .int i ∧ y = .int j ∧ Q (.int (f i j)) H
theorem ip_add : PIp X .Add (ipI fun i j => i + j) := by
  intro pins s σ H x y v u Q I r1 r2 h
  obtain ⟨i, j, e1, e2, q⟩ := h
  subst e1; subst e2
  obtain ⟨t, rfl⟩ := r1
  obtain ⟨t', rfl⟩ := r2
  exact iadd_int ⟨.int _, H, I.tok _, ⟨_, rfl⟩, q⟩
theorem ip_sub : PIp X .Sub (ipI fun i j => i - j) := by
  intro pins s σ H x y v u Q I r1 r2 h
  obtain ⟨i, j, e1, e2, q⟩ := h
  subst e1; subst e2
  obtain ⟨t, rfl⟩ := r1
  obtain ⟨t', rfl⟩ := r2
  exact isub_int ⟨.int _, H, I.tok _, ⟨_, rfl⟩, q⟩
end

/-! ### while -/
section
variable {X : Cx} {pos : Pos}
/-- the invariant W with its measure -/
def tWhile (c : TT) (tb : TS) : TS := fun D σ H => ∃ W : Nat → St → Hp → Prop, (∃ m, W m σ H) ∧ ∀ m σ H, W m σ H →
  c σ H fun b H1 => if b = true then ∃ N : St → Hp → Prop, (∀ σ' H', N σ' H' → ∃ m', m' < m ∧ W m' σ' H') ∧ tb { D with nx := N, ct := N, bk := D.nx } σ H1 else D.nx σ H1
theorem ps_while {c : Expr} {body : List Stmt} {tc : TT} {tb : TS} (hp : PassesOwn (model X.prog X.w) X.A X.env X.xe) (hc : PT X c tc) (hb : PSs X body tb) : PS X (.While c body [] pos) (tWhile tc tb) := by
  intro pins s σ H D I h
  obtain ⟨W, ⟨m0, w0⟩, turn⟩ := h
  refine wpAny_While (codeAny_whileLoop (fun n s' => ∃ σ' H', Inv X pins σ' H' s' ∧ W n σ' H') ?_ m0 ⟨σ, H, I, w0⟩)
  rintro n s1 ⟨σ1, H1, I1, w1⟩
  refine wpAny_passesOwn hp (thn (hc pins s1 σ1 H1 _ I1 (turn n σ1 H1 w1)) fun b s2 ⟨H2, I2, q2⟩ => ?_)
  cases b with
  | true =>
    obtain ⟨N, hN, q2⟩ := q2
    rw [if_pos rfl]
    refine wpAny_passesOwn hp (thn (hb pins s2 σ1 H2 _ I2 q2) fun f s3 q3 => ?_)
    cases f with
    | next =>
      obtain ⟨σ3, H3, I3, n3⟩ := q3
      obtain ⟨m', hm, w3⟩ := hN σ3 H3 n3
      exact ⟨m', hm, σ3, H3, I3, w3⟩
    | cont =>
      obtain ⟨σ3, H3, I3, n3⟩ := q3
      obtain ⟨m', hm, w3⟩ := hN σ3 H3 n3
      exact ⟨m', hm, σ3, H3, I3, w3⟩
    | brk => exact q3
    | ret v => exact q3
  | false =>
    rw [if_neg Bool.false_ne_true]
    exact wpAny_execs_nil ⟨σ1, H2, I2, q2⟩
end

/-! ### what a loop or a comprehension walks -/
/-- at turn i: it yields x (the heap may grow), or it stops -/
structure It where
  go : Nat → Hp → Prop
  yld : Nat → Hp → V → Hp → Prop
  stop : Nat → Hp → Prop
/-- the iterator's own objects may turn: they are not the frame's, not pinned, younger than the entry (or a comprehension's own) -/
def FpOk (X : Cx) (pins : List (Addr × Obj)) (H : Hp) (b : Addr) : Prop :=
  H b = none ∧ b ≠ X.env.locals ∧ b ∉ X.fs ∧ (b ∈ X.ex ∨ X.s_0.heap.objs.size ≤ b) ∧ (∀ x c, X.env.cells.lookup x = some c → c ≠ b) ∧ ∀ p ∈ X.pn ++ pins, p.1 ≠ b
theorem Inv.fpOk {X : Cx} {pins : List (Addr × Obj)} {σ : St} {H H' : Hp} {s : Shared} {b : Addr} (I : Inv X pins σ H s) (hb : s.heap.objs.size ≤ b) (hn : H' b = none) : FpOk X pins H' b := by
  refine ⟨hn, Nat.ne_of_gt (Nat.lt_of_lt_of_le I.lt hb), I.nofs hb, .inr (Nat.le_trans I.sz hb), fun x c e z => ?_, fun p hp z => ?_⟩
  · obtain ⟨v, q⟩ := I.cell x c e
    exact absurd (Nat.lt_of_lt_of_le q.lt (by rw [z]; exact hb)) (Nat.lt_irrefl _)
  · exact absurd (Nat.lt_of_lt_of_le (Heap.lt_size (I.pin p hp).1) (by rw [z]; exact hb)) (Nat.lt_irrefl _)
structure Turn (P : Program) (w : World) (K : PySem.W.Frag) (tg : Expr) (J : It) (fp : List Addr) (it : Addr) (tn : Nat → Heap → Prop) : Prop where
  mem : it ∈ fp
  obj : ∀ i h, tn i h → ∀ b ∈ fp, ∃ o, h.get? b = some o ∧ ∀ v, o.data ≠ .cell v
  keep : ∀ i h h', tn i h → (∀ b ∈ fp, ∀ o, h.get? b = some o → h'.get? b = some o) → tn i h'
  item : ∀ (X : Cx), X.prog = P → X.w = w → X.K = K → X.calm = true → ∀ (i : Nat) (pins : List (Addr × Obj)) (s : Shared) (σ : St) (H : Hp) (E : Value → Shared → Prop), Inv X pins σ H s → (∀ b ∈ fp, FpOk X pins H b) → tn i s.heap → J.go i H →
    wpAny (model P w) X.A (pyNext (.ref it)) (fun r s1 => ∃ u, r = some u ∧
      wpAny (model P w) X.A (letOwnedTupleGo tg (.ref it) u) (fun _ s2 => ∃ x H', Inv X pins σ H' s2 ∧ RelV x u ∧ J.yld i H x H' ∧ tn (i + 1) s2.heap ∧ ∀ b ∈ fp, H' b = none) E s1) E s
  done : ∀ (X : Cx), X.prog = P → X.w = w → X.K = K → X.calm = true → ∀ (i : Nat) (pins : List (Addr × Obj)) (s : Shared) (σ : St) (H : Hp) (E : Value → Shared → Prop), Inv X pins σ H s → (∀ b ∈ fp, FpOk X pins H b) → tn i s.heap → J.stop i H →
    wpAny (model P w) X.A (pyNext (.ref it)) (fun r s1 => r = none ∧ Inv X pins σ H s1) E s
  self : ∀ (A : Around) (i : Nat) (s : Shared) (Q : Value → Shared → Prop) (E : Value → Shared → Prop), tn i s.heap → Q (.ref it) s → wpAny (model P w) A (pyIter (.ref it)) Q E s
abbrev TI := St → Hp → (It → Hp → Prop) → Prop
/-- an iterator has come -/
def PIE (X : Cx) (pins : List (Addr × Obj)) (σ : St) (tg : Expr) (R : It → Hp → Prop) (itv : Value) (s2 : Shared) : Prop :=
  ∃ (it : Addr) (fp : List Addr) (tn : Nat → Heap → Prop) (J : It) (H' : Hp), itv = .ref it ∧ Inv X pins σ H' s2 ∧ Turn X.prog X.w X.K tg J fp it tn ∧ tn 0 s2.heap ∧ (∀ b ∈ fp, FpOk X pins H' b) ∧ R J H'
def PI (X : Cx) (tg iter : Expr) (wi : TI) : Prop :=
  ∀ (pins : List (Addr × Obj)) (s : Shared) (σ : St) (H : Hp) (R : It → Hp → Prop), Inv X pins σ H s → wi σ H R →
    wpAny (model X.prog X.w) X.A (eval iter X.env) (fun v s1 => wpAny (model X.prog X.w) X.A (pyIter v) (PIE X pins σ tg R) X.xe s1) X.xe s

/-- the step ahead of the store is nothing for an iterator that keeps no tuple -/
theorem go_of {M : Model} {A : Around} {E : Value → Shared → Prop} {s : Shared} {tg : Expr} {it : Addr} {u : Value} {o : Obj} {n : String} {vs : Array Value} {Q : Unit → Shared → Prop} (ho : s.heap.get? it = some o) (hc : o.cls = .type n) (hd : o.data = .fields vs)
    (hn : ["enumerate", "zip", "dict_itemiterator", "dict_reverseitemiterator", "odict_iterator", "itertools.zip_longest", "itertools.pairwise"].contains n = false) (hQ : Q () s) : wpAny M A (letOwnedTupleGo tg (.ref it) u) Q E s := by
  unfold letOwnedTupleGo
  cases tg <;> first
    | exact wpAny_pure hQ
    | (cases u <;> first
        | exact wpAny_pure hQ
        | (refine wpAny_bind (wpAny_load ho ?_)
           rw [hc, hd]
           show wpAny M A (if (["enumerate", "zip", "dict_itemiterator", "dict_reverseitemiterator", "odict_iterator", "itertools.zip_longest", "itertools.pairwise"].contains n && vs[0]? == some (rawInt _)) = true then _ else _) Q E s
           rw [if_neg (by intro h; rw [hn, Bool.false_and] at h; cases h)]
           exact wpAny_pure hQ))

/-- the list at a, as it stands at each turn (a loop may append to it) -/
def Itl (K : PySem.W.Frag) (a : Addr) : It :=
  ⟨fun i H => ∃ xs x, SqL K H a xs ∧ xs[i]? = some x, fun i H x H' => H' = H ∧ ∀ xs, SqL K H a xs → xs[i]? = some x, fun i H => ∃ xs, SqL K H a xs ∧ xs.length ≤ i⟩
def Itt (K : PySem.W.Frag) (a : Addr) : It :=
  ⟨fun i H => ∃ xs x, SqT K H a xs ∧ xs[i]? = some x, fun i H x H' => H' = H ∧ ∀ xs, SqT K H a xs → xs[i]? = some x, fun i H => ∃ xs, SqT K H a xs ∧ xs.length ≤ i⟩
/-- lo, lo + 1, .. (n of them) -/
def Itr (lo : Int) (n : Nat) : It := ⟨fun i _ => i < n, fun i H x H' => H' = H ∧ x = .int (lo + i), fun i _ => n ≤ i⟩
theorem turn_list {P : Program} {w : World} {K : PySem.W.Frag} {tg : Expr} (a it : Addr) : Turn P w K tg (Itl K a) [it] it (fun i h => h.IsListIter it a i) where
  mem := by simp
  obj := fun i h st b hb => by
    have e : b = it := by simpa using hb
    subst e
    obtain ⟨o, e, c, d⟩ := st
    exact ⟨o, e, fun v z => by rw [d] at z; cases z⟩
  keep := fun i h h' st k => st.at fun o e => k it (by simp) o e
  item := by
    intro X hP hw hK hc i pins s σ H E I hf st hg
    subst hP hw hK
    obtain ⟨xs, x, hq, hx⟩ := hg
    obtain ⟨its, rv, p, hz⟩ := I.list hq
    obtain ⟨u, hu, ru⟩ := rv.get hx
    obtain ⟨f0, f1, f2, f3, f4, f5⟩ := hf it (by simp)
    refine wpAny_pyNext_list_item st p.isList (x := u) (by simpa using hu) fun h' st' sb => ?_
    have I1 : Inv X pins σ H { s with heap := h' } := I.turned (t' := s.toks) (fun b o hb e => (sb.2 b hb).trans e) f0 f1 f3 f4 f5
    obtain ⟨o, e, c, d⟩ := id st'
    exact ⟨u, rfl, go_of (s := { s with heap := h' }) e c d (by decide) ⟨x, H, I1, ru, ⟨rfl, fun ys hy => by rw [I.list_inj hy hq]; exact hx⟩, st', fun b hb => (hf b hb).1⟩⟩
  done := by
    intro X hP hw hK hc i pins s σ H E I hf st hg
    subst hP hw hK
    obtain ⟨xs, hq, hx⟩ := hg
    obtain ⟨its, rv, p, hz⟩ := I.list hq
    obtain ⟨f0, f1, f2, f3, f4, f5⟩ := hf it (by simp)
    have hl := rv.length
    exact wpAny_pyNext_list_end (I.ok.hd hc) st p.isList (by simp; omega) fun h' eb => ⟨rfl, I.turned (t' := s.toks) (fun b o hb e => eb b o hb e) f0 f1 f3 f4 f5⟩
  self := fun _ _ _ _ _ st h => wpAny_pyIter_listiter st h
theorem turn_tuple {P : Program} {w : World} {K : PySem.W.Frag} {tg : Expr} (a it : Addr) : Turn P w K tg (Itt K a) [it] it (fun i h => h.IsTupleIter it a i) where
  mem := by simp
  obj := fun i h st b hb => by
    have e : b = it := by simpa using hb
    subst e
    obtain ⟨o, e, c, d⟩ := st
    exact ⟨o, e, fun v z => by rw [d] at z; cases z⟩
  keep := fun i h h' st k => st.at fun o e => k it (by simp) o e
  item := by
    intro X hP hw hK hc i pins s σ H E I hf st hg
    subst hP hw hK
    obtain ⟨xs, x, hq, hx⟩ := hg
    obtain ⟨its, rv, p, hz⟩ := I.tuple hq
    obtain ⟨u, hu, ru⟩ := rv.get hx
    obtain ⟨f0, f1, f2, f3, f4, f5⟩ := hf it (by simp)
    refine wpAny_pyNext_tuple_item st (show s.heap.IsTuple a its.toArray from p) (x := u) (by simpa using hu) fun h' st' sb => ?_
    have I1 : Inv X pins σ H { s with heap := h' } := I.turned (t' := s.toks) (fun b o hb e => (sb.2 b hb).trans e) f0 f1 f3 f4 f5
    obtain ⟨o, e, c, d⟩ := id st'
    exact ⟨u, rfl, go_of (s := { s with heap := h' }) e c d (by decide) ⟨x, H, I1, ru, ⟨rfl, fun ys hy => by rw [I.tuple_inj hy hq]; exact hx⟩, st', fun b hb => (hf b hb).1⟩⟩
  done := by
    intro X hP hw hK hc i pins s σ H E I hf st hg
    subst hP hw hK
    obtain ⟨xs, hq, hx⟩ := hg
    obtain ⟨its, rv, p, hz⟩ := I.tuple hq
    obtain ⟨f0, f1, f2, f3, f4, f5⟩ := hf it (by simp)
    have hl := rv.length
    exact wpAny_pyNext_tuple_end (I.ok.hd hc) st (show s.heap.IsTuple a its.toArray from p) (by simp; omega) fun h' eb => ⟨rfl, I.turned (t' := s.toks) (fun b o hb e => eb b o hb e) f0 f1 f3 f4 f5⟩
  self := fun _ _ _ _ _ st h => wpAny_pyIter_tupleiter st h
theorem turn_range {P : Program} {w : World} {K : PySem.W.Frag} {tg : Expr} (it : Addr) (lo : Int) (n : Nat) : Turn P w K tg (Itr lo n) [it] it (fun i h => IsRangeIter h it (lo + (i : Nat) * 1) ((n : Int) - (i : Nat)) 1) where
  mem := by simp
  obj := fun i h st b hb => by
    have e : b = it := by simpa using hb
    subst e
    exact ⟨_, st, fun v z => by
      have z' : Data.fields _ = Data.cell v := z
      cases z'⟩
  keep := fun i h h' st k => k it (by simp) _ st
  item := by
    intro X hP hw hK hc i pins s σ H E I hf st hg
    subst hP hw hK
    obtain ⟨f0, f1, f2, f3, f4, f5⟩ := hf it (by simp)
    have W := Walks.range (prog := X.prog) (w := X.w) (I.ok.hd hc) it lo 1 n
    refine W.item i s _ _ hg st fun v h' tk hv st' kk => ?_
    obtain ⟨t, rfl⟩ := hv
    have I1 : Inv X pins σ H { s with heap := h', toks := tk } := I.turned (fun b o hb e => kk b o (by simpa using hb) e) f0 f1 f3 f4 f5
    refine ⟨_, rfl, go_of (s := { s with heap := h', toks := tk }) (n := "range_iterator") st' rfl rfl (by decide) ⟨.int (lo + i), H, I1, ⟨t, ?_⟩, ⟨rfl, rfl⟩, st', fun b hb => (hf b hb).1⟩⟩
    rw [Int.mul_one]
  done := by
    intro X hP hw hK hc i pins s σ H E I hf st hg
    subst hP hw hK
    obtain ⟨f0, f1, f2, f3, f4, f5⟩ := hf it (by simp)
    exact wpAny_pyNext_range_end (I.ok.hd hc) st (by have : n ≤ i := hg; omega) fun h' eb => ⟨rfl, I.turned (t' := s.toks) (fun b o hb e => eb b o hb e) f0 f1 f3 f4 f5⟩
  self := fun _ _ _ _ _ st h => wpAny_pyIter_rangeiter st h
end L2

namespace L2
open PySem PySem.Spec PyProof.Rows
section
variable {X : Cx} {tg : Expr}
def iList (K : PySem.W.Frag) (tl : TE) : TI := fun σ H R => tl σ H fun x H1 => ∃ a, x = .ref a ∧ (∃ xs, SqL K H1 a xs) ∧ R (Itl K a) H1
def iTup (K : PySem.W.Frag) (tl : TE) : TI := fun σ H R => tl σ H fun x H1 => ∃ a, x = .ref a ∧ (∃ xs, SqT K H1 a xs) ∧ R (Itt K a) H1
theorem pi_list {l : Expr} {tl : TE} (hl : PE X l tl) : PI X tg l (iList X.K tl) := by
  intro pins s σ H R I h
  refine thn (hl pins s σ H _ I h) fun v s1 ⟨x, H1, I1, r1, q1⟩ => ?_
  obtain ⟨a, e, ⟨xs, hq⟩, q⟩ := q1
  subst e
  cases r1
  obtain ⟨its, rv, p, hz⟩ := I1.list hq
  refine wpAny_pyIter_list p.isList ?_
  refine ⟨s1.heap.objs.size, [s1.heap.objs.size], _, _, H1, rfl, I1.kept (t' := s1.toks) fun b o e => Heap.get?_push_of_some _ e, turn_list a _, ⟨_, Heap.get?_push_size _ rfl, rfl, rfl⟩, fun b hb => ?_, q⟩
  have e : b = s1.heap.objs.size := by simpa using hb
  subst e
  exact I1.fpOk (Nat.le_refl _) (I1.hok.fresh (Nat.le_refl _))
theorem pi_tup {l : Expr} {tl : TE} (hl : PE X l tl) : PI X tg l (iTup X.K tl) := by
  intro pins s σ H R I h
  refine thn (hl pins s σ H _ I h) fun v s1 ⟨x, H1, I1, r1, q1⟩ => ?_
  obtain ⟨a, e, ⟨xs, hq⟩, q⟩ := q1
  subst e
  cases r1
  obtain ⟨its, rv, p, hz⟩ := I1.tuple hq
  refine wpAny_pyIter_tuple (show s1.heap.IsTuple a its.toArray from p) ?_
  refine ⟨s1.heap.objs.size, [s1.heap.objs.size], _, _, H1, rfl, I1.kept (t' := s1.toks) fun b o e => Heap.get?_push_of_some _ e, turn_tuple a _, ⟨_, Heap.get?_push_size _ rfl, rfl, rfl⟩, fun b hb => ?_, q⟩
  have e : b = s1.heap.objs.size := by simpa using hb
  subst e
  exact I1.fpOk (Nat.le_refl _) (I1.hok.fresh (Nat.le_refl _))
/-- a range object just made, walked -/
theorem range_it {pins : List (Addr × Obj)} {σ : St} {H : Hp} {s : Shared} {R : It → Hp → Prop} {E : Value → Shared → Prop} {lo hi : Int} {t u v : Tok} {tk : Nat} (I : Inv X pins σ H s) (h1 : -(2 ^ 62) ≤ lo) (h2 : lo < 2 ^ 62) (h3 : -(2 ^ 62) ≤ hi) (h4 : hi < 2 ^ 62)
    (q : R (Itr lo (hi - lo).toNat) H) : wpAny (model X.prog X.w) X.A (pyIter (.ref s.heap.objs.size)) (PIE X pins σ tg R) E { s with heap := s.heap.push { cls := .type "range", data := .fields #[.int lo t, .int hi u, .int 1 v] }, toks := tk } := by
  refine wpAny_pyIter_range (IsRange.new ..) (small_one h1 h2 h3 h4) ?_
  have I1 : Inv X pins σ H { s with heap := s.heap.push { cls := .type "range", data := .fields #[.int lo t, .int hi u, .int 1 v] }, toks := tk } := I.kept fun b o e => Heap.get?_push_of_some _ e
  refine ⟨(s.heap.push { cls := .type "range", data := .fields #[.int lo t, .int hi u, .int 1 v] }).objs.size, [(s.heap.push { cls := .type "range", data := .fields #[.int lo t, .int hi u, .int 1 v] }).objs.size], _, _, H, rfl,
    I1.kept (t' := tk) fun b o e => Heap.get?_push_of_some _ e, turn_range _ lo (hi - lo).toNat, ?_, fun b hb => ?_, q⟩
  · have e1 : lo + ((0 : Nat) : Int) * 1 = lo := by simp
    have e2 : (((hi - lo).toNat : Nat) : Int) - ((0 : Nat) : Int) = Builtin.Range.rangeSize lo hi 1 := by rw [rangeSize_one]; split <;> omega
    show IsRangeIter _ _ (lo + ((0 : Nat) : Int) * 1) ((((hi - lo).toNat : Nat) : Int) - ((0 : Nat) : Int)) 1
    rw [e1, e2]
    exact Heap.get?_push_size _ rfl
  · have e : b = (s.heap.push { cls := .type "range", data := .fields #[.int lo t, .int hi u, .int 1 v] }).objs.size := by simpa using hb
    subst e
    exact I1.fpOk (Nat.le_refl _) (I1.hok.fresh (Nat.le_refl _))
def iRng1 (ta : TA) : TI := fun σ H R => ta σ H fun vs H1 => ∃ j : Int, vs = [.int j] ∧ -(2 ^ 62) ≤ j ∧ j < 2 ^ 62 ∧ R (Itr 0 j.toNat) H1
def iRng2 (ta : TA) : TI := fun σ H R => ta σ H fun vs H1 => ∃ i j : Int, vs = [.int i, .int j] ∧ (-(2 ^ 62) ≤ i ∧ i < 2 ^ 62 ∧ -(2 ^ 62) ≤ j ∧ j < 2 ^ 62) ∧ R (Itr i (j - i).toNat) H1
theorem pi_range1 {a : Expr} {ta : TA} {p pos : Pos} (hg : Gl X "range") (hm : X.mg "range" = none) (ha : PA X [a] ta) (hs : starEach [a] X.env = [(false, eval a X.env)] := by rfl) : PI X tg (.Call (.Name "range" p) [a] [] pos) (iRng1 ta) := by
  intro pins s σ H R I h
  refine Call_ (ld_blt I hg hm boot_range (PyProof.Rows.callWith_type1 (thn (ha pos pins s σ H _ I h) fun us s1 ⟨vs, H1, I1, r1, q1⟩ => ?_) hs rfl))
  obtain ⟨j, e, q1, q2, q⟩ := q1
  subst e
  cases r1 with
  | cons r rr =>
    cases rr
    obtain ⟨t, rfl⟩ := r
    exact call_range_1 (range_it I1 (by omega) (by omega) q1 q2 (by simpa using q))
theorem pi_range2 {a b : Expr} {ta : TA} {p pos : Pos} (hg : Gl X "range") (hm : X.mg "range" = none) (ha : PA X [a, b] ta) (hs : starEach [a, b] X.env = [(false, eval a X.env), (false, eval b X.env)] := by rfl) (hs2 : starEach [b] X.env = [(false, eval b X.env)] := by rfl) :
    PI X tg (.Call (.Name "range" p) [a, b] [] pos) (iRng2 ta) := by
  intro pins s σ H R I h
  refine Call_ (ld_blt I hg hm boot_range (PyProof.Rows.callWith_type1 (thn (ha pos pins s σ H _ I h) fun us s1 ⟨vs, H1, I1, r1, q1⟩ => ?_) (by rw [hs, hs2]) (by rw [hs2]; rfl)))
  obtain ⟨i, j, e, ⟨q1, q2, q3, q4⟩, q⟩ := q1
  subst e
  cases r1 with
  | cons r rr =>
    cases rr with
    | cons r' rr =>
      cases rr
      obtain ⟨t, rfl⟩ := r
      obtain ⟨t', rfl⟩ := r'
      exact call_range_2 (range_it I1 q1 q2 q3 q4 q)

/-! ### for -/
/-- W: the invariant by the turn and a measure; N: what the body is to reach -/
def tFor (wi : TI) (g : TG) (tb : TS) : TS := fun D σ H => wi σ H fun J H1 => ∃ W : Nat → Nat → St → Hp → Prop, (∃ m, W 0 m σ H1) ∧ ∀ i m σ H, W i m σ H →
  (J.stop i H ∧ D.nx σ H) ∨ (J.go i H ∧ ∃ N : St → Hp → Prop, (∀ σ' H', N σ' H' → ∃ m', m' < m ∧ W (i + 1) m' σ' H') ∧ ∀ x H', J.yld i H x H' → g x σ H' fun σ2 H2 => tb { D with nx := N, ct := N, bk := D.nx } σ2 H2)
/-- the records at fp as they stand -/
def pinsAt (fp : List Addr) (h : Heap) : List (Addr × Obj) := fp.filterMap fun b => (h.get? b).map fun o => (b, o)
theorem mem_pinsAt {fp : List Addr} {h : Heap} {b : Addr} {o : Obj} (hb : b ∈ fp) (e : h.get? b = some o) : (b, o) ∈ pinsAt fp h := List.mem_filterMap.mpr ⟨b, hb, by rw [e]; rfl⟩
theorem of_pinsAt {fp : List Addr} {h : Heap} {p : Addr × Obj} (hp : p ∈ pinsAt fp h) : p.1 ∈ fp ∧ h.get? p.1 = some p.2 := by
  obtain ⟨b, hb, e⟩ := List.mem_filterMap.mp hp
  cases q : h.get? b with
  | none => rw [q] at e; cases e
  | some o =>
    rw [q] at e
    have e' : (b, o) = p := Option.some.inj e
    subst e'
    exact ⟨hb, q⟩
theorem Inv.pinned {pins : List (Addr × Obj)} {σ : St} {H : Hp} {s : Shared} {fp : List Addr} (I : Inv X pins σ H s) (hf : ∀ b ∈ fp, FpOk X pins H b) (ho : ∀ b ∈ fp, ∃ o, s.heap.get? b = some o ∧ ∀ v, o.data ≠ .cell v) : Inv X (pins ++ pinsAt fp s.heap) σ H s :=
  I.pins_of fun p hp => (List.mem_append.mp hp).elim (fun z => I.pin p (List.mem_append_right _ z)) fun z => by
    obtain ⟨hb, e⟩ := of_pinsAt z
    obtain ⟨f0, f1, f2, _⟩ := hf p.1 hb
    obtain ⟨o, e', d⟩ := ho p.1 hb
    rw [e] at e'; cases e'
    exact ⟨e, f0, f1, f2, d⟩
theorem Inv.unpinned {pins pl : List (Addr × Obj)} {σ : St} {H : Hp} {s : Shared} (I : Inv X (pins ++ pl) σ H s) : Inv X pins σ H s := I.pins_of fun p hp => I.pin p (List.mem_append_right _ (List.mem_append_left _ hp))
theorem ps_for {iter : Expr} {body : List Stmt} {wi : TI} {g : TG} {tb : TS} {pos : Pos} (hp : PassesOwn (model X.prog X.w) X.A X.env X.xe) (hc : X.calm = true) (hi : PI X tg iter wi) (hg : PG X tg g) (hb : PSs X body tb)
    (hs : ∀ x, foldedSetIterable iter X.env x = pure x := by intro _; rfl) : PS X (.For tg iter body [] pos) (tFor wi g tb) := by
  intro pins s σ H D I h
  refine wpAny_For (thn (hi pins s σ H _ I h) fun v s1 h1 => thn h1 fun itv s2 h2 => ?_) hs
  obtain ⟨it, fp, tn, J, H2, e, I2, T, st2, f2, W, ⟨m0, w0⟩, turn⟩ := h2
  subst e
  -- what stays true of the iterator's objects through the loop
  have stat : ∀ {H' : Hp}, (∀ b ∈ fp, H' b = none) → ∀ b ∈ fp, FpOk X pins H' b := fun hn b hb => ⟨hn b hb, (f2 b hb).2⟩
  refine codeAny_forLoop_any (fun n s' => ∃ i σ' H', Inv X pins σ' H' s' ∧ tn i s'.heap ∧ (∀ b ∈ fp, H' b = none) ∧ W i n σ' H') ?_ m0 ⟨0, σ, H2, I2, st2, fun b hb => (f2 b hb).1, w0⟩
  rintro n s3 ⟨i, σ3, H3, I3, st3, fr3, w3⟩
  rcases turn i n σ3 H3 w3 with ⟨stop, qn⟩ | ⟨go, N, hN, step⟩
  · refine wpAny_passesOwn hp (thn (T.done X rfl rfl rfl hc i pins s3 σ3 H3 X.xe I3 (stat fr3) st3 stop) fun r s4 ⟨hr, I4⟩ => ?_)
    subst hr
    exact wpAny_execs_nil ⟨σ3, H3, I4, qn⟩
  · refine wpAny_passesOwn hp (thn (T.item X rfl rfl rfl hc i pins s3 σ3 H3 X.xe I3 (stat fr3) st3 go) fun r s4 ⟨u, hr, h4⟩ => ?_)
    subst hr
    refine wpAny_passesOwn hp (thn h4 fun _ s5 ⟨x, H5, I5, r5, y5, st5, fr5⟩ => ?_)
    have I5' := I5.pinned (stat fr5) (T.obj _ _ st5)
    refine wpAny_passesOwn hp (thn (hg _ s5 σ3 H5 x u _ I5' r5 (step x H5 y5)) fun _ s6 ⟨σ6, H6, I6, q6⟩ => ?_)
    refine wpAny_passesOwn hp (thn (hb _ s6 σ6 H6 _ I6 q6) fun f s7 q7 => ?_)
    have again : ∀ {σ7 : St} {H7 : Hp}, Inv X (pins ++ pinsAt fp s5.heap) σ7 H7 s7 → N σ7 H7 → ∃ m, m < n ∧ ∃ i σ' H', Inv X pins σ' H' s7 ∧ tn i s7.heap ∧ (∀ b ∈ fp, H' b = none) ∧ W i m σ' H' := fun {σ7 H7} I7 n7 => by
      obtain ⟨m', hm, w7⟩ := hN σ7 H7 n7
      refine ⟨m', hm, i + 1, σ7, H7, I7.unpinned, T.keep _ _ _ st5 fun b hb o e => (I7.pin (b, o) (List.mem_append_right _ (List.mem_append_right _ (mem_pinsAt hb e)))).1, fun b hb => ?_, w7⟩
      obtain ⟨o, e, d⟩ := T.obj _ _ st5 b hb
      exact (I7.pin (b, o) (List.mem_append_right _ (List.mem_append_right _ (mem_pinsAt hb e)))).2.1
    cases f with
    | next => obtain ⟨σ7, H7, I7, n7⟩ := q7; exact again I7 n7
    | cont => obtain ⟨σ7, H7, I7, n7⟩ := q7; exact again I7 n7
    | brk => obtain ⟨σ7, H7, I7, q7⟩ := q7; exact ⟨σ7, H7, I7.unpinned, q7⟩
    | ret v => obtain ⟨x7, σ7, H7, I7, r7, q7⟩ := q7; exact ⟨x7, σ7, H7, I7.unpinned, r7, q7⟩
end

/-! ### the forms one uses -/
/-- over a list that the body leaves as it is -/
theorem for_list {K : PySem.W.Frag} {a : Addr} {xs : List V} {g : TG} {tb : TS} {D : Ends} {σ : St} {H : Hp} (Pv : Nat → St → Hp → Prop) (h0 : Pv 0 σ H) (hl : ∀ i σ H, i ≤ xs.length → Pv i σ H → SqL K H a xs)
    (hs : ∀ i x σ H, xs[i]? = some x → Pv i σ H → g x σ H fun σ2 H2 => tb { D with nx := Pv (i + 1), ct := Pv (i + 1), bk := D.nx } σ2 H2) (hd : ∀ σ H, Pv xs.length σ H → D.nx σ H) :
    ∃ W : Nat → Nat → St → Hp → Prop, (∃ m, W 0 m σ H) ∧ ∀ i m σ H, W i m σ H →
      ((Itl K a).stop i H ∧ D.nx σ H) ∨ ((Itl K a).go i H ∧ ∃ N : St → Hp → Prop, (∀ σ' H', N σ' H' → ∃ m', m' < m ∧ W (i + 1) m' σ' H') ∧ ∀ x H', (Itl K a).yld i H x H' → g x σ H' fun σ2 H2 => tb { D with nx := N, ct := N, bk := D.nx } σ2 H2) := by
  refine ⟨fun i m σ H => m = xs.length - i ∧ i ≤ xs.length ∧ Pv i σ H, ⟨xs.length, by simp, Nat.zero_le _, h0⟩, ?_⟩
  rintro i m σ H ⟨rfl, hi, p⟩
  have q := hl i σ H hi p
  by_cases hlt : i < xs.length
  · refine .inr ⟨⟨xs, xs[i], q, by simp [hlt]⟩, Pv (i + 1), fun σ' H' p' => ⟨xs.length - (i + 1), by omega, rfl, hlt, p'⟩, fun x H' y => ?_⟩
    obtain ⟨e, y⟩ := y
    subst e
    exact hs i x σ _ (y xs q) p
  · have e : i = xs.length := by omega
    subst e
    exact .inl ⟨⟨xs, q, Nat.le_refl _⟩, hd σ H p⟩
theorem for_tup {K : PySem.W.Frag} {a : Addr} {xs : List V} {g : TG} {tb : TS} {D : Ends} {σ : St} {H : Hp} (Pv : Nat → St → Hp → Prop) (h0 : Pv 0 σ H) (hl : ∀ i σ H, i ≤ xs.length → Pv i σ H → SqT K H a xs)
    (hs : ∀ i x σ H, xs[i]? = some x → Pv i σ H → g x σ H fun σ2 H2 => tb { D with nx := Pv (i + 1), ct := Pv (i + 1), bk := D.nx } σ2 H2) (hd : ∀ σ H, Pv xs.length σ H → D.nx σ H) :
    ∃ W : Nat → Nat → St → Hp → Prop, (∃ m, W 0 m σ H) ∧ ∀ i m σ H, W i m σ H →
      ((Itt K a).stop i H ∧ D.nx σ H) ∨ ((Itt K a).go i H ∧ ∃ N : St → Hp → Prop, (∀ σ' H', N σ' H' → ∃ m', m' < m ∧ W (i + 1) m' σ' H') ∧ ∀ x H', (Itt K a).yld i H x H' → g x σ H' fun σ2 H2 => tb { D with nx := N, ct := N, bk := D.nx } σ2 H2) := by
  refine ⟨fun i m σ H => m = xs.length - i ∧ i ≤ xs.length ∧ Pv i σ H, ⟨xs.length, by simp, Nat.zero_le _, h0⟩, ?_⟩
  rintro i m σ H ⟨rfl, hi, p⟩
  have q := hl i σ H hi p
  by_cases hlt : i < xs.length
  · refine .inr ⟨⟨xs, xs[i], q, by simp [hlt]⟩, Pv (i + 1), fun σ' H' p' => ⟨xs.length - (i + 1), by omega, rfl, hlt, p'⟩, fun x H' y => ?_⟩
    obtain ⟨e, y⟩ := y
    subst e
    exact hs i x σ _ (y xs q) p
  · have e : i = xs.length := by omega
    subst e
    exact .inl ⟨⟨xs, q, Nat.le_refl _⟩, hd σ H p⟩
theorem for_range {lo : Int} {n : Nat} {g : TG} {tb : TS} {D : Ends} {σ : St} {H : Hp} (Pv : Nat → St → Hp → Prop) (h0 : Pv 0 σ H)
    (hs : ∀ i σ H, i < n → Pv i σ H → g (.int (lo + i)) σ H fun σ2 H2 => tb { D with nx := Pv (i + 1), ct := Pv (i + 1), bk := D.nx } σ2 H2) (hd : ∀ σ H, Pv n σ H → D.nx σ H) :
    ∃ W : Nat → Nat → St → Hp → Prop, (∃ m, W 0 m σ H) ∧ ∀ i m σ H, W i m σ H →
      ((Itr lo n).stop i H ∧ D.nx σ H) ∨ ((Itr lo n).go i H ∧ ∃ N : St → Hp → Prop, (∀ σ' H', N σ' H' → ∃ m', m' < m ∧ W (i + 1) m' σ' H') ∧ ∀ x H', (Itr lo n).yld i H x H' → g x σ H' fun σ2 H2 => tb { D with nx := N, ct := N, bk := D.nx } σ2 H2) := by
  refine ⟨fun i m σ H => m = n - i ∧ i ≤ n ∧ Pv i σ H, ⟨n, by simp, Nat.zero_le _, h0⟩, ?_⟩
  rintro i m σ H ⟨rfl, hi, p⟩
  by_cases hlt : i < n
  · refine .inr ⟨hlt, Pv (i + 1), fun σ' H' p' => ⟨n - (i + 1), by omega, rfl, hlt, p'⟩, fun x H' y => ?_⟩
    obtain ⟨e, y⟩ := y
    subst e y
    exact hs i σ _ hlt p
  · have e : i = n := by omega
    subst e
    exact .inl ⟨Nat.le_refl _, hd σ H p⟩
/-- while, by a word and a measure of the state -/
theorem while_by {c : TT} {tb : TS} {D : Ends} {σ : St} {H : Hp} (Pv : St → Hp → Prop) (μ : St → Hp → Nat) (h0 : Pv σ H)
    (hs : ∀ σ H, Pv σ H → c σ H fun b H1 => if b = true then tb { D with nx := fun σ' H' => Pv σ' H' ∧ μ σ' H' < μ σ H, ct := fun σ' H' => Pv σ' H' ∧ μ σ' H' < μ σ H, bk := D.nx } σ H1 else D.nx σ H1)
    (mono : ∀ σ H Q Q', (∀ b H1, Q b H1 → Q' b H1) → c σ H Q → c σ H Q') : tWhile c tb D σ H := by
  refine ⟨fun m σ H => m = μ σ H ∧ Pv σ H, ⟨_, rfl, h0⟩, ?_⟩
  rintro m σ H ⟨rfl, p⟩
  refine mono σ H _ _ (fun b H1 q => ?_) (hs σ H p)
  cases b with
  | true => exact ⟨_, fun σ' H' ⟨p', l⟩ => ⟨_, l, rfl, p'⟩, q⟩
  | false => exact q
end L2

namespace L2
open PySem PySem.Spec PyProof.Rows

abbrev R2 := V → V → Hp → VK → Prop
/-- a two-place operation on values: f is binaryOp op, inplaceOp op or compareOp op -/
def OpR (X : Cx) (f : Value → Value → Sem Value) (r : R2) : Prop :=
  ∀ (pins : List (Addr × Obj)) (s : Shared) (σ : St) (H : Hp) (x y : V) (v u : Value) (Q : VK), Inv X pins σ H s → RelV x v → RelV y u → r x y H Q →
    wpAny (model X.prog X.w) X.A (f v u) (EP X pins σ Q) X.xe s
/-- a one-place operation -/
def UnR (X : Cx) (f : Value → Sem Value) (r : V → Hp → VK → Prop) : Prop :=
  ∀ (pins : List (Addr × Obj)) (s : Shared) (σ : St) (H : Hp) (x : V) (v : Value) (Q : VK), Inv X pins σ H s → RelV x v → r x H Q →
    wpAny (model X.prog X.w) X.A (f v) (EP X pins σ Q) X.xe s
/-- a call of a value that is known (a builtin, a type) with values -/
def CallR (X : Cx) (f : Value) (r : List V → Hp → VK → Prop) : Prop :=
  ∀ (pins : List (Addr × Obj)) (s : Shared) (σ : St) (H : Hp) (xs : List V) (us : List Value) (Q : VK), Inv X pins σ H s → Vals xs us → r xs H Q →
    wpAny (model X.prog X.w) X.A (call f us) (EP X pins σ Q) X.xe s
/-- a value's truth -/
def TruR (X : Cx) (r : V → Hp → (Bool → Hp → Prop) → Prop) : Prop :=
  ∀ (pins : List (Addr × Obj)) (s : Shared) (σ : St) (H : Hp) (x : V) (v : Value) (Q : Bool → Hp → Prop), Inv X pins σ H s → RelV x v → r x H Q →
    wpAny (model X.prog X.w) X.A (truthy v) (TP X pins σ Q) X.xe s

def tOp (r : R2) (ta tb : TE) : TE := fun σ H Q => ta σ H fun x H1 => tb σ H1 fun y H2 => r x y H2 Q
def tUn (r : V → Hp → VK → Prop) (ta : TE) : TE := fun σ H Q => ta σ H fun x H1 => r x H1 Q
/-- ints in, under C, and a value out -/
def rI (C : Int → Int → Prop) (g : Int → Int → V) : R2 := fun x y H Q => ∃ i j, x = .int i ∧ y = .int j ∧ C i j ∧ Q (g i j) H
def rI0 (g : Int → Int → V) : R2 := fun x y H Q => ∃ i j, x = .int i ∧ y = .int j ∧ Q (g i j) H
def rU (g : Int → V) : V → Hp → VK → Prop := fun x H Q => ∃ i, x = .int i ∧ Q (g i) H

section
variable {X : Cx} {a b c : Expr} {ta tb tc : TE} {pos : Pos}

theorem binT (ha : PE X a ta) (hb : PE X b tb) {pins : List (Addr × Obj)} {s : Shared} {σ : St} {H : Hp} {R : V → V → Hp → Prop} (I : Inv X pins σ H s)
    (h : ta σ H fun x H1 => tb σ H1 fun y H2 => R x y H2) {Q : Value → Shared → Prop} {f : Value → Value → Sem Value}
    (hf : ∀ v u s2 x y H2, Inv X pins σ H2 s2 → RelV x v → RelV y u → R x y H2 → wpAny (model X.prog X.w) X.A (f v u) Q X.xe s2) :
    wpAny (model X.prog X.w) X.A (eval a X.env) (fun v s₁ => wpAny (model X.prog X.w) X.A (eval b X.env) (fun u s₂ => wpAny (model X.prog X.w) X.A (f v u) Q X.xe s₂) X.xe s₁) X.xe s := by
  refine thn (ha pins s σ H _ I h) fun v s1 ⟨x, H1, I1, r1, q1⟩ => ?_
  refine thn (hb pins s1 σ H1 _ I1 q1) fun u s2 ⟨y, H2, I2, r2, q2⟩ => ?_
  exact hf v u s2 x y H2 I2 r1 r2 q2

theorem pe_op {op : Operator} {r : R2} (ho : OpR X (binaryOp op) r) (ha : PE X a ta) (hb : PE X b tb) : PE X (.BinOp a op b pos) (tOp r ta tb) := by
  intro pins s σ H Q I h
  exact wpAny_BinOp (binT ha hb I h fun v u s2 x y H2 I2 rx ry q => ho pins s2 σ H2 x y v u Q I2 rx ry q)
theorem pe_un {op : UnaryOp} {r : V → Hp → VK → Prop} (ho : UnR X (unaryOp op) r) (ha : PE X a ta) : PE X (.UnaryOp op a pos) (tUn r ta) := by
  intro pins s σ H Q I h
  exact UnaryOp_ (thn (ha pins s σ H _ I h) fun v s1 ⟨x, H1, I1, r1, q1⟩ => ho pins s1 σ H1 x v Q I1 r1 q1)
/-- a op= e at a name: the name's slot i -/
theorem augR {op : Operator} {r : R2} (ho : OpR X (inplaceOp op) r) {pins : List (Addr × Obj)} {s : Shared} {σ : St} {H : Hp} {x y : V} {v u : Value} {Q : VK} (I : Inv X pins σ H s)
    (rx : RelV x v) (ry : RelV y u) (q : r x y H Q) : wpAny (model X.prog X.w) X.A (inplaceOp op v u) (EP X pins σ Q) X.xe s := ho pins s σ H x y v u Q I rx ry q

/-! ### ints -/
theorem opI {f : Value → Value → Sem Value} {C : Int → Int → Prop} {g : Int → Int → Int}
    (rule : ∀ (i j : Int) (t u : Tok) (s : Shared) (Q : Value → Shared → Prop) (E : Value → Shared → Prop), C i j → Q (.int (g i j) s.toks) { s with toks := s.toks + 1 } → wpAny (model X.prog X.w) X.A (f (.int i t) (.int j u)) Q E s) :
    OpR X f (rI C fun i j => .int (g i j)) := by
  intro pins s σ H x y v u Q I rx ry h
  obtain ⟨i, j, rfl, rfl, hc, q⟩ := h
  obtain ⟨t, rfl⟩ := rx
  obtain ⟨t', rfl⟩ := ry
  exact rule i j t t' s _ _ hc ⟨.int (g i j), H, I.tok _, ⟨_, rfl⟩, q⟩
theorem opI0 {f : Value → Value → Sem Value} {g : Int → Int → Int}
    (rule : ∀ (i j : Int) (t u : Tok) (s : Shared) (Q : Value → Shared → Prop) (E : Value → Shared → Prop), Q (.int (g i j) s.toks) { s with toks := s.toks + 1 } → wpAny (model X.prog X.w) X.A (f (.int i t) (.int j u)) Q E s) :
    OpR X f (rI0 fun i j => .int (g i j)) := by
  intro pins s σ H x y v u Q I rx ry h
  obtain ⟨i, j, rfl, rfl, q⟩ := h
  obtain ⟨t, rfl⟩ := rx
  obtain ⟨t', rfl⟩ := ry
  exact rule i j t t' s _ _ ⟨.int (g i j), H, I.tok _, ⟨_, rfl⟩, q⟩
theorem opB0 {f : Value → Value → Sem Value} {g : Int → Int → Bool}
    (rule : ∀ (i j : Int) (t u : Tok) (s : Shared) (Q : Value → Shared → Prop) (E : Value → Shared → Prop), Q (.bool (g i j)) s → wpAny (model X.prog X.w) X.A (f (.int i t) (.int j u)) Q E s) :
    OpR X f (rI0 fun i j => .bl (g i j)) := by
  intro pins s σ H x y v u Q I rx ry h
  obtain ⟨i, j, rfl, rfl, q⟩ := h
  obtain ⟨t, rfl⟩ := rx
  obtain ⟨t', rfl⟩ := ry
  exact rule i j t t' s _ _ ⟨.bl (g i j), H, I, rfl, q⟩

def CDiv (i j : Int) : Prop := 0 < j ∧ j < 1073741824
def CDivN (i j : Int) : Prop := j ≠ 0 ∧ j.natAbs < 1073741824
def CPow (i j : Int) : Prop := 0 ≤ j ∧ j ≤ 1000000 ∧ i.natAbs < 2 ^ 64
def CMul (i j : Int) : Prop := (-(2 ^ 64) < i ∧ i < 2 ^ 64) ∨ (-(2 ^ 64) < j ∧ j < 2 ^ 64)
theorem CMul.ok {i j : Int} (h : CMul i j) : IntMulOk i j := by
  rcases h with ⟨h1, h2⟩ | ⟨h1, h2⟩
  · exact .of_left (intBits_le_64 h1 h2)
  · exact .of_right (intBits_le_64 h1 h2)
theorem two_pow_nn (k : Nat) : (0 : Int) ≤ 2 ^ k := by
  rw [two_pow_cast]
  exact Int.natCast_nonneg _

theorem op_add : OpR X (binaryOp .Add) (rI0 fun i j => .int (i + j)) := opI0 fun _ _ _ _ _ _ _ q => add_int q
theorem op_sub : OpR X (binaryOp .Sub) (rI0 fun i j => .int (i - j)) := opI0 fun _ _ _ _ _ _ _ q => sub_int q
theorem op_mul : OpR X (binaryOp .Mult) (rI CMul fun i j => .int (i * j)) := opI fun _ _ _ _ _ _ _ hc q => mul_int q hc.ok
/-- // by a positive divisor -/
theorem op_fdiv : OpR X (binaryOp .FloorDiv) (rI CDiv fun i j => .int (i / j)) := opI fun i j _ _ _ _ _ hc q => by
  have h1 : (0 : Int) < j := hc.1
  have h2 : j < 1073741824 := hc.2
  exact floordiv_int (by omega) (by rw [Int.fdiv_eq_ediv_of_nonneg i (by omega)]; exact q) (.inl (PyProof.noPylong_small (by omega)))
theorem op_fdivN : OpR X (binaryOp .FloorDiv) (rI CDivN fun i j => .int (i.fdiv j)) := opI fun _ _ _ _ _ _ _ hc q => floordiv_int hc.1 q (.inl (PyProof.noPylong_small hc.2))
/-- % by a positive divisor of any size -/
theorem op_mod : OpR X (binaryOp .Mod) (rI (fun _ j => 0 < j) fun i j => .int (i % j)) := opI fun i j _ _ _ _ _ hc q => by
  have h1 : (0 : Int) < j := hc
  exact mod_int' (by omega) (by rw [Int.fmod_eq_emod_of_nonneg i (by omega)]; exact q)
theorem op_modN : OpR X (binaryOp .Mod) (rI (fun _ j => j ≠ 0) fun i j => .int (i.fmod j)) := opI fun _ _ _ _ _ _ _ hc q => mod_int' hc q
theorem op_pow : OpR X (binaryOp .Pow) (rI CPow fun i j => .int (i ^ j.toNat)) := opI fun _ _ _ _ _ _ _ hc q => pow_int_small hc.1 hc.2.1 hc.2.2 q
theorem op_shl : OpR X (binaryOp .LShift) (rI CPow fun i j => .int (i * 2 ^ j.toNat)) := opI fun _ _ _ _ _ _ _ hc q => lshift_int_small hc.1 hc.2.1 hc.2.2 q
theorem op_shr : OpR X (binaryOp .RShift) (rI (fun _ j => 0 ≤ j) fun i j => .int (i / 2 ^ j.toNat)) := opI fun i j _ _ _ _ _ hc q =>
  rshift_int hc (by rw [Int.fdiv_eq_ediv_of_nonneg i (two_pow_nn _)]; exact q)
theorem op_and : OpR X (binaryOp .BitAnd) (rI0 fun i j => .int (Builtin.bitAnd i j)) := opI0 fun _ _ _ _ _ _ _ q => and_int q
theorem op_or : OpR X (binaryOp .BitOr) (rI0 fun i j => .int (Builtin.bitOr i j)) := opI0 fun _ _ _ _ _ _ _ q => or_int q
theorem op_xor : OpR X (binaryOp .BitXor) (rI0 fun i j => .int (Builtin.bitXor i j)) := opI0 fun _ _ _ _ _ _ _ q => xor_int q

theorem iop_add : OpR X (inplaceOp .Add) (rI0 fun i j => .int (i + j)) := opI0 fun _ _ _ _ _ _ _ q => iadd_int q
theorem iop_sub : OpR X (inplaceOp .Sub) (rI0 fun i j => .int (i - j)) := opI0 fun _ _ _ _ _ _ _ q => isub_int q
theorem iop_mul : OpR X (inplaceOp .Mult) (rI CMul fun i j => .int (i * j)) := opI fun _ _ _ _ _ _ _ hc q => imul_int q hc.ok
theorem iop_fdiv : OpR X (inplaceOp .FloorDiv) (rI CDiv fun i j => .int (i / j)) := opI fun i j _ _ _ _ _ hc q => by
  have h1 : (0 : Int) < j := hc.1
  have h2 : j < 1073741824 := hc.2
  exact ifloordiv_int (by omega) (by rw [Int.fdiv_eq_ediv_of_nonneg i (by omega)]; exact q) (.inl (PyProof.noPylong_small (by omega)))
theorem iop_mod : OpR X (inplaceOp .Mod) (rI (fun _ j => 0 < j) fun i j => .int (i % j)) := opI fun i j _ _ _ _ _ hc q => by
  have h1 : (0 : Int) < j := hc
  exact imod_int (by omega) (by rw [Int.fmod_eq_emod_of_nonneg i (by omega)]; exact q)
theorem iop_shl : OpR X (inplaceOp .LShift) (rI CPow fun i j => .int (i * 2 ^ j.toNat)) := opI fun _ _ _ _ _ _ _ hc q => ilshift_int_small hc.1 hc.2.1 hc.2.2 q
theorem iop_shr : OpR X (inplaceOp .RShift) (rI (fun _ j => 0 ≤ j) fun i j => .int (i / 2 ^ j.toNat)) := opI fun i j _ _ _ _ _ hc q =>
  irshift_int hc (by rw [Int.fdiv_eq_ediv_of_nonneg i (two_pow_nn _)]; exact q)
theorem iop_and : OpR X (inplaceOp .BitAnd) (rI0 fun i j => .int (Builtin.bitAnd i j)) := opI0 fun _ _ _ _ _ _ _ q => iand_int q
theorem iop_or : OpR X (inplaceOp .BitOr) (rI0 fun i j => .int (Builtin.bitOr i j)) := opI0 fun _ _ _ _ _ _ _ q => ior_int q
theorem iop_xor : OpR X (inplaceOp .BitXor) (rI0 fun i j => .int (Builtin.bitXor i j)) := opI0 fun _ _ _ _ _ _ _ q => ixor_int q

theorem unI {f : Value → Sem Value} {g : Int → Int}
    (rule : ∀ (i : Int) (t : Tok) (s : Shared) (Q : Value → Shared → Prop) (E : Value → Shared → Prop), Q (.int (g i) s.toks) { s with toks := s.toks + 1 } → wpAny (model X.prog X.w) X.A (f (.int i t)) Q E s) :
    UnR X f (rU fun i => .int (g i)) := by
  intro pins s σ H x v Q I rx h
  obtain ⟨i, rfl, q⟩ := h
  obtain ⟨t, rfl⟩ := rx
  exact rule i t s _ _ ⟨.int (g i), H, I.tok _, ⟨_, rfl⟩, q⟩
theorem un_neg : UnR X (unaryOp .USub) (rU fun i => .int (-i)) := unI fun _ _ _ _ _ q => neg_int q
theorem un_inv : UnR X (unaryOp .Invert) (rU fun i => .int (Builtin.bitNot i)) := unI fun _ _ _ _ _ q => invert_int q

/-! ### bools among ints: n += (a < b) -/
theorem op_add_ib : OpR X (binaryOp .Add) (fun x y H Q => ∃ i k, x = .int i ∧ y = .bl k ∧ Q (.int (i + b2i k)) H) := by
  intro pins s σ H x y v u Q I rx ry h
  obtain ⟨i, k, rfl, rfl, q⟩ := h
  obtain ⟨t, rfl⟩ := rx
  cases ry
  exact add_int_bool ⟨.int (i + b2i k), H, I.tok _, ⟨_, rfl⟩, q⟩
end

/-! ### comparisons -/
/-- the scalars that == tells apart as data does -/
def scal : V → V → Bool
  | .non, .non => true | .non, .int _ => true | .int _, .non => true | .non, .bl _ => true | .bl _, .non => true | .non, .str _ => true | .str _, .non => true
  | .int _, .int _ => true | .bl _, .bl _ => true | .str _, .str _ => true | .byt _, .byt _ => true
  | .int _, .str _ => true | .str _, .int _ => true | .bl _, .str _ => true | .str _, .bl _ => true
  | _, _ => false
def rEq : R2 := fun x y H Q => scal x y = true ∧ Q (.bl (decide (x = y))) H
def rNe : R2 := fun x y H Q => scal x y = true ∧ Q (.bl (!decide (x = y))) H

theorem dec_int {i j : Int} : decide (V.int i = V.int j) = (i == j) := by
  rw [Bool.eq_iff_iff]
  simp
theorem dec_bl {i j : Bool} : decide (V.bl i = V.bl j) = (i == j) := by
  rw [Bool.eq_iff_iff]
  simp
theorem dec_str {i j : Str} : decide (V.str i = V.str j) = (i == j) := by
  rw [Bool.eq_iff_iff]
  simp
theorem dec_byt {i j : Array UInt8} : decide (V.byt i = V.byt j) = (i.toList == j.toList) := by
  rw [Bool.eq_iff_iff]
  cases i
  cases j
  simp

section
variable {X : Cx} {a b c : Expr} {ta tb tc : TE} {pos : Pos}
theorem fin_bl {pins : List (Addr × Obj)} {σ : St} {H : Hp} {s : Shared} {Q : VK} {k k' : Bool} (I : Inv X pins σ H s) (q : Q (.bl k) H) (e : k = k') : EP X pins σ Q (.bool k') s := by
  subst e
  exact ⟨.bl k, H, I, rfl, q⟩
theorem op_eq : OpR X (compareOp .Eq) rEq := by
  intro pins s σ H x y v u Q I rx ry h
  obtain ⟨hs, q⟩ := h
  cases x with
  | non =>
    cases rx
    cases y with
    | non => cases ry; exact PySem.EqNone.eq_none_none (fin_bl I q (by simp))
    | bl j => cases ry; exact PySem.EqNone.eq_none_bool (fin_bl I q (by simp))
    | int j => obtain ⟨t', rfl⟩ := ry; exact PySem.EqNone.eq_none_int (fin_bl I q (by simp))
    | str j => obtain ⟨t', rfl⟩ := ry; exact PySem.EqNone.eq_none_str (fin_bl I q (by simp))
    | _ => exact absurd (show false = true from hs) Bool.false_ne_true
  | bl i =>
    cases rx
    cases y with
    | non => cases ry; exact PySem.EqNone.eq_bool_none (fin_bl I q (by simp))
    | bl j => cases ry; exact eq_bool (fin_bl I q dec_bl)
    | str j => obtain ⟨t', rfl⟩ := ry; exact PySem.EqMixed.eq_bool_str (fin_bl I q (by simp))
    | _ => exact absurd (show false = true from hs) Bool.false_ne_true
  | int i =>
    obtain ⟨t, rfl⟩ := rx
    cases y with
    | non => cases ry; exact PySem.EqNone.eq_int_none (fin_bl I q (by simp))
    | int j => obtain ⟨t', rfl⟩ := ry; exact eq_int (fin_bl I q dec_int)
    | str j => obtain ⟨t', rfl⟩ := ry; exact PySem.EqMixed.eq_int_str (fin_bl I q (by simp))
    | _ => exact absurd (show false = true from hs) Bool.false_ne_true
  | str i =>
    obtain ⟨t, rfl⟩ := rx
    cases y with
    | non => cases ry; exact PySem.EqNone.eq_str_none (fin_bl I q (by simp))
    | bl j => cases ry; exact PySem.EqMixed.eq_str_bool (fin_bl I q (by simp))
    | int j => obtain ⟨t', rfl⟩ := ry; exact PySem.EqMixed.eq_str_int (fin_bl I q (by simp))
    | str j => obtain ⟨t', rfl⟩ := ry; exact eq_str (fin_bl I q dec_str)
    | _ => exact absurd (show false = true from hs) Bool.false_ne_true
  | byt i =>
    obtain ⟨t, rfl⟩ := rx
    cases y with
    | byt j => obtain ⟨t', rfl⟩ := ry; exact PySem.W.eq_bytes (fin_bl I q dec_byt)
    | _ => exact absurd (show false = true from hs) Bool.false_ne_true
  | _ => cases y <;> exact absurd (show false = true from hs) Bool.false_ne_true
theorem op_ne : OpR X (compareOp .NotEq) rNe := by
  intro pins s σ H x y v u Q I rx ry h
  obtain ⟨hs, q⟩ := h
  cases x with
  | non =>
    cases rx
    cases y with
    | non => cases ry; exact PySem.EqNone.ne_none_none (fin_bl I q (by simp))
    | bl j => cases ry; exact PySem.EqNone.ne_none_bool (fin_bl I q (by simp))
    | int j => obtain ⟨t', rfl⟩ := ry; exact PySem.EqNone.ne_none_int (fin_bl I q (by simp))
    | str j => obtain ⟨t', rfl⟩ := ry; exact PySem.EqNone.ne_none_str (fin_bl I q (by simp))
    | _ => exact absurd (show false = true from hs) Bool.false_ne_true
  | bl i =>
    cases rx
    cases y with
    | non => cases ry; exact PySem.EqNone.ne_bool_none (fin_bl I q (by simp))
    | bl j => cases ry; exact ne_bool (fin_bl I q (congrArg not dec_bl))
    | str j => obtain ⟨t', rfl⟩ := ry; exact PySem.EqMixed.ne_bool_str (fin_bl I q (by simp))
    | _ => exact absurd (show false = true from hs) Bool.false_ne_true
  | int i =>
    obtain ⟨t, rfl⟩ := rx
    cases y with
    | non => cases ry; exact PySem.EqNone.ne_int_none (fin_bl I q (by simp))
    | int j => obtain ⟨t', rfl⟩ := ry; exact ne_int (fin_bl I q (congrArg not dec_int))
    | str j => obtain ⟨t', rfl⟩ := ry; exact PySem.EqMixed.ne_int_str (fin_bl I q (by simp))
    | _ => exact absurd (show false = true from hs) Bool.false_ne_true
  | str i =>
    obtain ⟨t, rfl⟩ := rx
    cases y with
    | non => cases ry; exact PySem.EqNone.ne_str_none (fin_bl I q (by simp))
    | bl j => cases ry; exact PySem.EqMixed.ne_str_bool (fin_bl I q (by simp))
    | int j => obtain ⟨t', rfl⟩ := ry; exact PySem.EqMixed.ne_str_int (fin_bl I q (by simp))
    | str j => obtain ⟨t', rfl⟩ := ry; exact ne_str (fin_bl I q (congrArg not dec_str))
    | _ => exact absurd (show false = true from hs) Bool.false_ne_true
  | byt i =>
    obtain ⟨t, rfl⟩ := rx
    cases y with
    | byt j => obtain ⟨t', rfl⟩ := ry; exact PySem.W.ne_bytes (fin_bl I q (congrArg not dec_byt))
    | _ => exact absurd (show false = true from hs) Bool.false_ne_true
  | _ => cases y <;> exact absurd (show false = true from hs) Bool.false_ne_true

theorem op_lt : OpR X (compareOp .Lt) (rI0 fun i j => .bl (decide (i < j))) := opB0 fun _ _ _ _ _ _ _ q => lt_int q
theorem op_le : OpR X (compareOp .LtE) (rI0 fun i j => .bl (decide (i ≤ j))) := opB0 fun _ _ _ _ _ _ _ q => le_int q
theorem op_gt : OpR X (compareOp .Gt) (rI0 fun i j => .bl (decide (j < i))) := opB0 fun _ _ _ _ _ _ _ q => gt_int q
theorem op_ge : OpR X (compareOp .GtE) (rI0 fun i j => .bl (decide (j ≤ i))) := opB0 fun _ _ _ _ _ _ _ q => ge_int q
theorem op_lt_str : OpR X (compareOp .Lt) (fun x y H Q => ∃ i j, x = .str i ∧ y = .str j ∧ Q (.bl (decide (i.cps.toList < j.cps.toList))) H) := by
  intro pins s σ H x y v u Q I rx ry h
  obtain ⟨i, j, rfl, rfl, q⟩ := h
  obtain ⟨t, rfl⟩ := rx
  obtain ⟨t', rfl⟩ := ry
  exact lt_str (fin_bl I q rfl)
/-- the one string within the other -/
theorem op_in_str : OpR X (compareOp .In) (fun x y H Q => ∃ i j, x = .str i ∧ y = .str j ∧ Q (.bl (!(Builtin.Str.occurrences j i 0 j.length 1).isEmpty)) H) := by
  intro pins s σ H x y v u Q I rx ry h
  obtain ⟨i, j, rfl, rfl, q⟩ := h
  obtain ⟨t, rfl⟩ := rx
  obtain ⟨t', rfl⟩ := ry
  exact in_str (fin_bl I q rfl)

/-- is None, is not None: the right side a value none -/
theorem op_isN : OpR X (compareOp .Is) (fun x y H Q => y = .non ∧ Q (.bl (decide (x = .non))) H) := by
  intro pins s σ H x y v u Q I rx ry h
  obtain ⟨rfl, q⟩ := h
  cases ry
  refine is_none_gen (fin_bl I q ?_)
  cases x <;> first
    | (cases rx; rfl)
    | (obtain ⟨t, rfl⟩ := rx; rfl)
theorem op_notN : OpR X (compareOp .IsNot) (fun x y H Q => y = .non ∧ Q (.bl (!decide (x = .non))) H) := by
  intro pins s σ H x y v u Q I rx ry h
  obtain ⟨rfl, q⟩ := h
  cases ry
  refine isnot_none_gen (fin_bl I q ?_)
  cases x <;> first
    | (cases rx; rfl)
    | (obtain ⟨t, rfl⟩ := rx; rfl)

theorem op_notin_str : OpR X (compareOp .NotIn) (fun x y H Q => ∃ i j, x = .str i ∧ y = .str j ∧ Q (.bl (!(!(Builtin.Str.occurrences j i 0 j.length 1).isEmpty))) H) := by
  intro pins s σ H x y v u Q I rx ry h
  obtain ⟨i, j, rfl, rfl, q⟩ := h
  obtain ⟨t, rfl⟩ := rx
  obtain ⟨t', rfl⟩ := ry
  exact notIn_str (fin_bl I q rfl)
/-- is, is not of two objects that are tracked lists or instances -/
def isObj : HO → Bool
  | .lst _ => true
  | .ins _ _ _ => true
  | _ => false
theorem obj_there {pins : List (Addr × Obj)} {s : Shared} {σ : St} {H : Hp} {a : Addr} {o : HO} (I : Inv X pins σ H s) (h : H a = some o) (p : isObj o = true) : ∃ ob, s.heap.get? a = some ob ∧ ob.cls ≠ .type "tuple" := by
  cases o with
  | lst xs =>
    obtain ⟨_, its, n, _, e⟩ : xs.length ≤ sizeLine ∧ ∃ (its : List Value) (n : Nat), Vals xs its ∧ s.heap.get? a = some { cls := .type "list", data := .seq its.toArray n } := I.hok a _ h
    exact ⟨_, e, (by show Value.type "list" ≠ .type "tuple"; decide +kernel)⟩
  | ins C dx fs =>
    have x := I.hok a _ h
    obtain ⟨_, _, _, e, _⟩ := x
    exact ⟨_, e, (by show Value.ref C ≠ .type "tuple"; exact fun z => by cases z)⟩
  | _ => exact absurd (show false = true from p) Bool.false_ne_true
theorem op_is_ref : OpR X (compareOp .Is) (fun x y H Q => ∃ a b oa ob, x = .ref a ∧ y = .ref b ∧ H a = some oa ∧ isObj oa = true ∧ H b = some ob ∧ isObj ob = true ∧ Q (.bl (decide (a = b))) H) := by
  intro pins s σ H x y v u Q I rx ry h
  obtain ⟨a, b, oa, ob, rfl, rfl, ha, pa, hb, pb, q⟩ := h
  cases rx
  cases ry
  obtain ⟨o1, e1, n1⟩ := obj_there I ha pa
  obtain ⟨o2, e2, _⟩ := obj_there I hb pb
  by_cases z : a = b
  · subst z
    exact wpAny_is_ref_self (fin_bl I q (by simp))
  · exact wpAny_is_ref_other z e1 e2 n1 (fin_bl I q (by simp [z]))
theorem op_isnot_ref : OpR X (compareOp .IsNot) (fun x y H Q => ∃ a b oa ob, x = .ref a ∧ y = .ref b ∧ H a = some oa ∧ isObj oa = true ∧ H b = some ob ∧ isObj ob = true ∧ Q (.bl (!decide (a = b))) H) := by
  intro pins s σ H x y v u Q I rx ry h
  obtain ⟨a, b, oa, ob, rfl, rfl, ha, pa, hb, pb, q⟩ := h
  cases rx
  cases ry
  obtain ⟨o1, e1, n1⟩ := obj_there I ha pa
  obtain ⟨o2, e2, _⟩ := obj_there I hb pb
  by_cases z : a = b
  · subst z
    exact wpAny_isNot_ref_self (fin_bl I q (by simp))
  · exact wpAny_isNot_ref_other z e1 e2 n1 (fin_bl I q (by simp [z]))

/-- two rules for one operation: by cases -/
theorem OpR.or {f : Value → Value → Sem Value} {r r' : R2} (h : OpR X f r) (h' : OpR X f r') : OpR X f (fun x y H Q => r x y H Q ∨ r' x y H Q) := by
  intro pins s σ H x y v u Q I rx ry q
  rcases q with q | q
  · exact h pins s σ H x y v u Q I rx ry q
  · exact h' pins s σ H x y v u Q I rx ry q

theorem nomark (b : Expr) {op : CmpOp} (h : op ≠ .In := by decide) (h2 : op ≠ .NotIn := by decide) : behindInMarks op b = false := by
  have e1 : (op == CmpOp.In) = false := by cases op <;> first | rfl | exact absurd rfl h
  have e2 : (op == CmpOp.NotIn) = false := by cases op <;> first | rfl | exact absurd rfl h2
  cases b <;> simp [behindInMarks, e1, e2]
/-- a comparison as a value; hm: nomark b, or (for in, not in) by with_unfolding_all rfl -/
theorem pe_cmpR {op : CmpOp} {r : R2} (ho : OpR X (compareOp op) r) (ha : PE X a ta) (hb : PE X b tb) (hm : behindInMarks op b = false) : PE X (.Compare a [op] [b] pos) (tOp r ta tb) := by
  intro pins s σ H Q I h
  exact wpAny_Compare1 (binT ha hb I h fun v u s2 x y H2 I2 rx ry q => ho pins s2 σ H2 x y v u Q I2 rx ry q) hm
/-- a reading of a value as a test -/
def tTest (t : TE) : TT := fun σ H Q => t σ H fun x H' => ∃ k, x = .bl k ∧ Q k H'
theorem pt_cmpR {op : CmpOp} {r : R2} (ho : OpR X (compareOp op) r) (ha : PE X a ta) (hb : PE X b tb) (hm : behindInMarks op b = false) : PT X (.Compare a [op] [b] pos) (tTest (tOp r ta tb)) := by
  intro pins s σ H Q I h
  refine wpAny_isTrue_Compare1 (thn (ha pins s σ H _ I h) fun v s1 ⟨x, H1, I1, r1, q1⟩ => thn (hb pins s1 σ H1 _ I1 q1) fun u s2 ⟨y, H2, I2, r2, q2⟩ =>
    thn (ho pins s2 σ H2 x y v u _ I2 r1 r2 q2) fun c s3 ⟨z, H3, I3, r3, k, e, q3⟩ => ?_) hm
  subst e
  cases r3
  exact wpAny_truthy_bool ⟨H3, I3, q3⟩
/-- a op1 b op2 c -/
def tChain (r r' : R2) (ta tb tc : TE) : TE := fun σ H Q => ta σ H fun x H1 => tb σ H1 fun y H2 => r x y H2 fun z H3 => ∃ k, z = .bl k ∧
  (if k = true then tc σ H3 fun w' H4 => r' y w' H4 Q else Q (.bl false) H3)
theorem pe_chain {op op' : CmpOp} {r r' : R2} (ho : OpR X (compareOp op) r) (ho' : OpR X (compareOp op') r') (ha : PE X a ta) (hb : PE X b tb) (hc : PE X c tc)
    (hm : lastMarks [op, op'] [b, c] = false := by with_unfolding_all rfl) : PE X (.Compare a [op, op'] [b, c] pos) (tChain r r' ta tb tc) := by
  intro pins s σ H Q I h
  refine Compare_chain (thn (ha pins s σ H _ I h) fun v s1 ⟨x, H1, I1, r1, q1⟩ => chain_link (thn (hb pins s1 σ H1 _ I1 q1) fun u s2 ⟨y, H2, I2, r2, q2⟩ =>
    thn (ho pins s2 σ H2 x y v u _ I2 r1 r2 q2) fun d s3 ⟨z, H3, I3, r3, k, e, q3⟩ => ?_)) hm
  subst e
  cases r3
  refine wpAny_truthy_bool ?_
  cases k with
  | false => exact ite_ff ⟨.bl false, H3, I3, rfl, q3⟩
  | true => exact ite_tt (chain_last (thn (hc pins s3 σ H3 _ I3 q3) fun w' s4 ⟨z', H4, I4, r4, q4⟩ => ho' pins s4 σ H4 y z' u w' Q I4 r2 r4 q4))
theorem pt_chain {op op' : CmpOp} {r r' : R2} (ho : OpR X (compareOp op) r) (ho' : OpR X (compareOp op') r') (ha : PE X a ta) (hb : PE X b tb) (hc : PE X c tc)
    (hm : lastMarks [op, op'] [b, c] = false := by with_unfolding_all rfl) : PT X (.Compare a [op, op'] [b, c] pos) (tTest (tChain r r' ta tb tc)) := by
  intro pins s σ H Q I h
  refine isTrue_chain (thn (ha pins s σ H _ I h) fun v s1 ⟨x, H1, I1, r1, q1⟩ => test_link (thn (hb pins s1 σ H1 _ I1 q1) fun u s2 ⟨y, H2, I2, r2, q2⟩ =>
    thn (ho pins s2 σ H2 x y v u _ I2 r1 r2 q2) fun d s3 ⟨z, H3, I3, r3, k, e, q3⟩ => ?_)) hm
  subst e
  cases r3
  refine wpAny_truthy_bool ?_
  cases k with
  | false =>
    obtain ⟨k', e', q'⟩ := q3
    cases e'
    exact ite_ff ⟨H3, I3, q'⟩
  | true =>
    refine ite_tt (test_last (thn (hc pins s3 σ H3 _ I3 q3) fun w' s4 ⟨z', H4, I4, r4, q4⟩ => thn (ho' pins s4 σ H4 y z' u w' _ I4 r2 r4 q4) fun d' s5 ⟨z2, H5, I5, r5, k2, e2, q5⟩ => ?_))
    subst e2
    cases r5
    exact wpAny_truthy_bool ⟨H5, I5, q5⟩

/-! ### truth -/
/-- a value's truth by the abstract heap -/
def TruV (K : PySem.W.Frag) (x : V) (H : Hp) (k : Bool) : Prop :=
  match x with
  | .non => k = false
  | .bl b => k = b
  | .int i => k = (i != 0)
  | .str y => y.length ≤ sizeLine ∧ k = ((y.length : Int) != 0)
  | .byt y => y.size ≤ sizeLine ∧ k = ((y.size : Int) != 0)
  | .ref p => (∃ xs, SqL K H p xs ∧ k = !xs.isEmpty) ∨ (∃ xs, SqT K H p xs ∧ k = !xs.isEmpty) ∨ ∃ kvs, H p = some (.dK kvs) ∧ k = !kvs.isEmpty
  | _ => False
theorem isEmpty_kv {κ : Type} {kvs : List (κ × V)} {vs : List (κ × Value)} (r : KV kvs vs) : (!vs.isEmpty) = !kvs.isEmpty := by
  cases r <;> rfl
theorem isEmpty_of {xs : List V} {its : List Value} (r : Vals xs its) : (!its.toArray.isEmpty) = !xs.isEmpty := by
  cases r <;> simp
theorem line63 : (sizeLine : Nat) < 2 ^ 63 := by rw [sizeLine_eq]; decide
theorem tru_ok : TruR X (fun x H Q => ∃ k, TruV X.K x H k ∧ Q k H) := by
  intro pins s σ H x v Q I rx h
  obtain ⟨k, e, q⟩ := h
  have hl := line63
  have hs : sizeLine = 16777216 := sizeLine_eq
  cases x with
  | non =>
    cases rx
    have e' : k = false := e
    subst e'
    exact truthy_none ⟨H, I, q⟩
  | bl b =>
    cases rx
    have e' : k = b := e
    subst e'
    exact wpAny_truthy_bool ⟨H, I, q⟩
  | int i =>
    obtain ⟨t, rfl⟩ := rx
    have e' : k = (i != 0) := e
    subst e'
    exact PySem.P.truthy_int ⟨H, I, q⟩
  | str y =>
    obtain ⟨t, rfl⟩ := rx
    obtain ⟨hy, e'⟩ : y.length ≤ sizeLine ∧ k = ((y.length : Int) != 0) := e
    subst e'
    exact PySem.P.truthy_str (by omega) ⟨H, I.tok _, q⟩
  | byt y =>
    obtain ⟨t, rfl⟩ := rx
    obtain ⟨hy, e'⟩ : y.size ≤ sizeLine ∧ k = ((y.size : Int) != 0) := e
    subst e'
    exact PySem.W.truthy_bytes (by omega) ⟨H, I.tok _, q⟩
  | ref p =>
    cases rx
    have e' : (∃ xs, SqL X.K H p xs ∧ k = !xs.isEmpty) ∨ (∃ xs, SqT X.K H p xs ∧ k = !xs.isEmpty) ∨ ∃ kvs, H p = some (.dK kvs) ∧ k = !kvs.isEmpty := e
    rcases e' with ⟨xs, hx, e'⟩ | ⟨xs, hx, e'⟩ | ⟨kvs, hx, e'⟩
    · subst e'
      obtain ⟨its, r, pl, hz⟩ := I.list hx
      have hlen := r.length
      exact wpAny_truthy_list pl.isList (by simp only [List.size_toArray]; omega) ⟨H, I.tok _, by rw [isEmpty_of r]; exact q⟩
    · subst e'
      obtain ⟨its, r, pl, hz⟩ := I.tuple hx
      have hlen := r.length
      exact truthy_tuple pl (by simp only [List.size_toArray]; omega) ⟨H, I.tok _, by rw [isEmpty_of r]; exact q⟩
    · subst e'
      obtain ⟨hz, hS, vs, r, m⟩ : kvs.length ≤ sizeLine ∧ (p == sysModules) = false ∧ ∃ vs, KV kvs vs ∧ s.heap.DictOf (mixKind X.prog X.w) p vs := I.hok p _ hx
      have hlen : kvs.length = vs.length := Paired.length r
      exact wpAny_truthy_dict hS m (by omega) ⟨H, I.tok _, by rw [isEmpty_kv r]; exact q⟩
  | _ => exact (show False from e).elim
/-- any expression whose test is its value's truth (a name, a call, a subscript, a field ..: he by fun _ => rfl) -/
theorem pt_truth (ha : PE X a ta) (he : ∀ whole, isTrue a X.env whole = (do let v ← whole; standAt a.pos; holding [v] (truthy v))) :
    PT X a (fun σ H Q => ta σ H fun x H' => ∃ k, TruV X.K x H' k ∧ Q k H') := by
  intro pins s σ H Q I h
  exact isTrue_plain (thn (ha pins s σ H _ I h) fun v s1 ⟨x, H1, I1, r1, q1⟩ => tru_ok pins s1 σ H1 x v Q I1 r1 q1) (he _)

/-! ### strs and bytes -/
theorem pe_byt {x : List UInt8} {k : Nat} : PE X (.Constant (.bytes x) k pos) (fun _ H Q => Q (.byt x.toArray) H) := fun _ _ _ H _ I h => PySem.W.Constant_bytes ⟨.byt x.toArray, H, I.tok _, ⟨_, rfl⟩, h⟩
theorem op_add_str : OpR X (binaryOp .Add) (fun x y H Q => ∃ i j, x = .str i ∧ y = .str j ∧ i.length + j.length ≤ sizeLine ∧ Q (.str (i ++ j)) H) := by
  intro pins s σ H x y v u Q I rx ry h
  obtain ⟨i, j, rfl, rfl, hz, q⟩ := h
  obtain ⟨t, rfl⟩ := rx
  obtain ⟨t', rfl⟩ := ry
  exact add_str (fun t' tk => ⟨.str (i ++ j), H, I.tok _, ⟨_, rfl⟩, q⟩) hz
theorem iop_add_str : OpR X (inplaceOp .Add) (fun x y H Q => ∃ i j, x = .str i ∧ y = .str j ∧ i.length + j.length ≤ sizeLine ∧ Q (.str (i ++ j)) H) := by
  intro pins s σ H x y v u Q I rx ry h
  obtain ⟨i, j, rfl, rfl, hz, q⟩ := h
  obtain ⟨t, rfl⟩ := rx
  obtain ⟨t', rfl⟩ := ry
  exact iadd_str (fun t' tk => ⟨.str (i ++ j), H, I.tok _, ⟨_, rfl⟩, q⟩) hz
theorem op_add_byt : OpR X (binaryOp .Add) (fun x y H Q => ∃ i j, x = .byt i ∧ y = .byt j ∧ i.size + j.size ≤ 16777216 ∧ Q (.byt (i ++ j)) H) := by
  intro pins s σ H x y v u Q I rx ry h
  obtain ⟨i, j, rfl, rfl, hz, q⟩ := h
  obtain ⟨t, rfl⟩ := rx
  obtain ⟨t', rfl⟩ := ry
  exact PySem.W.KBy.add_bytes hz (fun t' tk => ⟨.byt (i ++ j), H, I.tok _, ⟨_, rfl⟩, q⟩)

def PlainIxT (b : Expr) : Prop := ∀ o i, subscripted b false o i = operate [o, i] (getItem o i)
/-- s[i], 0 ≤ i < len -/
theorem pe_item_str (ha : PE X a ta) (hb : PE X b tb) (hs : PlainIxT b) :
    PE X (.Subscript a b pos) (tOp (fun x y H Q => ∃ z i c, x = .str z ∧ y = .int i ∧ 0 ≤ i ∧ i < 2 ^ 63 ∧ i < z.length ∧ z.cps[i.toNat]? = some c ∧ Q (.str ⟨#[c]⟩) H) ta tb) := by
  intro pins s σ H Q I h
  refine Subscript_ (binT ha hb I h fun v u s2 x y H2 I2 rx ry q => ?_)
  obtain ⟨z, i, c, rfl, rfl, h0, h63, h1, hc, q⟩ := q
  obtain ⟨t, rfl⟩ := rx
  obtain ⟨t', rfl⟩ := ry
  have e : seqIndex? i z.length = some i.toNat := PySem.StrLaws.seqIndex_nonneg h0 h1
  exact tail_any (typeIs_str s2 z t) slot_str_getitem.lookup (getItem_str (c := c) (by
    have e1 : decide (i < -(2 ^ 63 : Int)) = false := decide_eq_false (by omega)
    have e2 : decide (i ≥ 2 ^ 63) = false := decide_eq_false (by omega)
    rw [e1, e2] <;> rfl) (by rw [e]; exact hc) ⟨.str ⟨#[c]⟩, H2, I2.tok _, ⟨_, rfl⟩, q⟩) (hs _ _)
/-- b[i], 0 ≤ i < len -/
theorem pe_item_byt (ha : PE X a ta) (hb : PE X b tb) (hs : PlainIxT b) :
    PE X (.Subscript a b pos) (tOp (fun x y H Q => ∃ (z : List UInt8) (i : Int), x = .byt z.toArray ∧ y = .int i ∧ z.length ≤ sizeLine ∧ 0 ≤ i ∧ i < z.length ∧ Q (.int ((z.getD i.toNat 0).toNat : Nat)) H) ta tb) := by
  intro pins s σ H Q I h
  refine Subscript_ (binT ha hb I h fun v u s2 x y H2 I2 rx ry q => ?_)
  obtain ⟨z, i, rfl, rfl, hz, h0, h1, q⟩ := q
  obtain ⟨t, rfl⟩ := rx
  obtain ⟨t', rfl⟩ := ry
  have hl : sizeLine = 16777216 := sizeLine_eq
  exact tail_any (PySem.W.typeIs_bytes s2 z.toArray t) PySem.W.FB.slot_bytes_getitem.lookup (PySem.W.getItem_bytes (by omega) h0 h1 ⟨.int ((z.getD i.toNat 0).toNat : Nat), H2, I2.tok _, ⟨_, rfl⟩, q⟩) (hs _ _)

/-! ### scalar builtins, by CallR -/
theorem vals1 {x : V} {us : List Value} (r : Vals [x] us) : ∃ u, us = [u] ∧ RelV x u := by
  cases r with
  | cons r1 r2 => cases r2; exact ⟨_, rfl, r1⟩
theorem vals2 {x y : V} {us : List Value} (r : Vals [x, y] us) : ∃ u w', us = [u, w'] ∧ RelV x u ∧ RelV y w' := by
  cases r with
  | cons r1 r2 =>
    cases r2 with
    | cons r3 r4 => cases r4; exact ⟨_, _, rfl, r1, r3⟩
theorem call_abs : CallR X (.builtin "abs") (fun xs H Q => ∃ i, xs = [.int i] ∧ Q (.int (if i < 0 then -i else i)) H) := by
  intro pins s σ H xs us Q I r h
  obtain ⟨i, rfl, q⟩ := h
  obtain ⟨u, rfl, t, rfl⟩ := vals1 r
  exact call_abs_int fun u tk => ⟨.int (if i < 0 then -i else i), H, I.tok _, ⟨_, rfl⟩, q⟩
theorem call_max2 (hc : X.calm = true) : CallR X (.builtin "max") (fun xs H Q => ∃ i j, xs = [.int i, .int j] ∧ Q (.int (if j > i then j else i)) H) := by
  intro pins s σ H xs us Q I r h
  obtain ⟨i, j, rfl, q⟩ := h
  obtain ⟨u, w', rfl, ⟨t, rfl⟩, ⟨t', rfl⟩⟩ := vals2 r
  refine max_two_ints (I.ok.hd hc) fun h' tk k => ⟨_, H, I.kept k, ?_, q⟩
  by_cases hj : j > i
  · rw [if_pos hj, if_pos hj]; exact ⟨_, rfl⟩
  · rw [if_neg hj, if_neg hj]; exact ⟨_, rfl⟩
theorem call_min2 (hc : X.calm = true) : CallR X (.builtin "min") (fun xs H Q => ∃ i j, xs = [.int i, .int j] ∧ Q (.int (if j < i then j else i)) H) := by
  intro pins s σ H xs us Q I r h
  obtain ⟨i, j, rfl, q⟩ := h
  obtain ⟨u, w', rfl, ⟨t, rfl⟩, ⟨t', rfl⟩⟩ := vals2 r
  refine min_two_ints (I.ok.hd hc) fun h' tk k => ⟨_, H, I.kept k, ?_, q⟩
  by_cases hj : j < i
  · rw [if_pos hj, if_pos hj]; exact ⟨_, rfl⟩
  · rw [if_neg hj, if_neg hj]; exact ⟨_, rfl⟩
theorem call_int1 : CallR X (.type "int") (fun xs H Q => (∃ i, xs = [.int i] ∧ Q (.int i) H) ∨ ∃ k, xs = [.bl k] ∧ Q (.int (if k then 1 else 0)) H) := by
  intro pins s σ H xs us Q I r h
  rcases h with ⟨i, rfl, q⟩ | ⟨k, rfl, q⟩
  · obtain ⟨u, rfl, t, rfl⟩ := vals1 r
    exact call_int_int ⟨.int i, H, I, ⟨_, rfl⟩, q⟩
  · obtain ⟨u, rfl, r1⟩ := vals1 r
    cases r1
    exact call_int_bool ⟨.int (if k then 1 else 0), H, I.tok _, ⟨_, rfl⟩, q⟩
theorem call_bool1 : CallR X (.type "bool") (fun xs H Q => (∃ i, xs = [.int i] ∧ Q (.bl (i != 0)) H) ∨ ∃ k, xs = [.bl k] ∧ Q (.bl k) H) := by
  intro pins s σ H xs us Q I r h
  rcases h with ⟨i, rfl, q⟩ | ⟨k, rfl, q⟩
  · obtain ⟨u, rfl, t, rfl⟩ := vals1 r
    exact call_bool_int ⟨.bl (i != 0), H, I, rfl, q⟩
  · obtain ⟨u, rfl, r1⟩ := vals1 r
    cases r1
    exact call_bool_bool ⟨.bl k, H, I, rfl, q⟩
theorem call_str_int : CallR X (.type "str") (fun xs H Q => ∃ i, xs = [.int i] ∧ i.natAbs.log2 < 1920 ∧ Q (.str (toString i)) H) := by
  intro pins s σ H xs us Q I r h
  obtain ⟨i, rfl, hz, q⟩ := h
  obtain ⟨u, rfl, t, rfl⟩ := vals1 r
  exact PySem.P.str_of_int hz ⟨.str _, H, I.tok _, ⟨_, rfl⟩, q⟩
theorem call_ord : CallR X (.builtin "ord") (fun xs H Q => ∃ x, xs = [.str x] ∧ x.length = 1 ∧ Q (.int (x.cps.getD 0 0 : Nat)) H) := by
  intro pins s σ H xs us Q I r h
  obtain ⟨x, rfl, hz, q⟩ := h
  obtain ⟨u, rfl, t, rfl⟩ := vals1 r
  exact ord_of_one hz ⟨.int _, H, I.tok _, ⟨_, rfl⟩, q⟩
theorem call_chr : CallR X (.builtin "chr") (fun xs H Q => ∃ i, xs = [.int i] ∧ 0 ≤ i ∧ i ≤ 1114111 ∧ Q (.str ⟨#[i.toNat]⟩) H) := by
  intro pins s σ H xs us Q I r h
  obtain ⟨i, rfl, h0, h1, q⟩ := h
  obtain ⟨u, rfl, t, rfl⟩ := vals1 r
  exact chr_of_range h0 h1 ⟨.str _, H, I.tok _, ⟨_, rfl⟩, q⟩
/-- len of a str, a bytes, a list, a tuple -/
def LenV (K : PySem.W.Frag) (x : V) (H : Hp) (n : Nat) : Prop :=
  match x with
  | .str y => y.length ≤ sizeLine ∧ n = y.length
  | .byt y => y.size ≤ sizeLine ∧ n = y.size
  | .ref p => (∃ xs, SqL K H p xs ∧ n = xs.length) ∨ ∃ xs, SqT K H p xs ∧ n = xs.length
  | _ => False
theorem call_len : CallR X (.builtin "len") (fun xs H Q => ∃ x n, xs = [x] ∧ LenV X.K x H n ∧ Q (.int n) H) := by
  intro pins s σ H xs us Q I r h
  obtain ⟨x, n, rfl, e, q⟩ := h
  obtain ⟨u, rfl, rx⟩ := vals1 r
  have hl := line63
  have hs : sizeLine = 16777216 := sizeLine_eq
  cases x with
  | str y =>
    obtain ⟨t, rfl⟩ := rx
    obtain ⟨hy, e'⟩ : y.length ≤ sizeLine ∧ n = y.length := e
    subst e'
    exact len_str (by omega) ⟨.int _, H, I.tok _, ⟨_, rfl⟩, q⟩
  | byt y =>
    obtain ⟨t, rfl⟩ := rx
    obtain ⟨hy, e'⟩ : y.size ≤ sizeLine ∧ n = y.size := e
    subst e'
    exact PySem.W.len_bytes (by omega) ⟨.int _, H, I.tok _, ⟨_, rfl⟩, q⟩
  | ref p =>
    cases rx
    have e' : (∃ xs, SqL X.K H p xs ∧ n = xs.length) ∨ ∃ xs, SqT X.K H p xs ∧ n = xs.length := e
    rcases e' with ⟨xs, hx, e'⟩ | ⟨xs, hx, e'⟩
    · subst e'
      obtain ⟨its, r', pl, hz⟩ := I.list hx
      have hlen := r'.length
      exact Calls.call_len_list pl.isList (by simp only [List.size_toArray]; omega) ⟨.int xs.length, H, I.tok _, ⟨_, by simp only [List.size_toArray]; rw [hlen]⟩, q⟩
    · subst e'
      obtain ⟨its, r', pl, hz⟩ := I.tuple hx
      have hlen := r'.length
      exact len_tuple pl (by simp only [List.size_toArray]; omega) ⟨.int xs.length, H, I.tok _, ⟨_, by simp only [List.size_toArray]; rw [hlen]⟩, q⟩
  | _ => exact (show False from e).elim
/-- divmod: a new tuple -/
theorem call_divmod : CallR X (.builtin "divmod") (fun xs H Q => ∃ i j, xs = [.int i, .int j] ∧ CDiv i j ∧ ∀ p, H p = none → Q (.ref p) (upd H p (.tup [.int (i / j), .int (i % j)]))) := by
  intro pins s σ H xs us Q I r h
  obtain ⟨i, j, rfl, ⟨h1, h2⟩, q⟩ := h
  obtain ⟨u, w', rfl, ⟨t, rfl⟩, ⟨t', rfl⟩⟩ := vals2 r
  refine divmod_int (by omega) ?_ (.inl (PyProof.noPylong_small (by omega)))
  rw [Int.fdiv_eq_ediv_of_nonneg i (by omega), Int.fmod_eq_emod_of_nonneg i (by omega)]
  have hn : H s.heap.objs.size = none := I.hok.fresh (Nat.le_refl _)
  refine ⟨.ref s.heap.objs.size, _, ?_, rfl, q _ hn⟩
  refine I.laid (fun b o e => Heap.get?_push_of_some _ e) (Nat.le_refl _) ⟨by simp only [List.length_cons, List.length_nil]; rw [sizeLine_eq]; decide, [.int (i / j) s.toks, .int (i % j) (s.toks + 1)], .cons ⟨_, rfl⟩ (.cons ⟨_, rfl⟩ .nil), ?_⟩
  exact ⟨_, Heap.get?_push_size s.heap rfl, rfl, 0, rfl⟩
end
end L2

namespace L2
open PySem PySem.Spec PyProof.Rows

/-! ### an instance, its attributes a map -/
structure ObjM (h : Heap) (x dx C : Addr) (mA : Str → Option Value) : Prop where
  obj : h.get? x = some (PySem.W.instObj C dx)
  ns : h.Ns1 dx mA
  ne : dx ≠ x

theorem lookIn_ns {h : Heap} {dx : Addr} {mA : Str → Option Value} (n : h.Ns1 dx mA) : ∃ od, h.get? dx = some od ∧ ∀ name, PySem.W.lookIn name od = some (mA name) := by
  obtain ⟨o, es, ep, ho, hd, hk, _, hm⟩ := n
  refine ⟨o, ho, fun name => ?_⟩
  have e := hm name
  unfold nsFind findBy at e
  rw [← Array.find?_toList] at e
  unfold PySem.W.lookIn
  rw [hd]
  dsimp only
  split
  · rename_i y q
    rw [q] at e
    exact congrArg some e
  · rename_i q
    rw [q] at e
    have a : es.toList.any (·.refKey) = false := by
      rw [List.any_eq_false]
      intro y hy
      obtain ⟨z, t, hkey⟩ := hk y (Array.mem_toList_iff.mp hy)
      simp [DictEntry.refKey, hkey]
    have a' : ¬ es.toList.any (·.refKey) = true := by rw [a]; exact Bool.false_ne_true
    rw [if_neg a']
    exact congrArg some e

theorem ObjM.look {h : Heap} {x dx C : Addr} {mA : Str → Option Value} (I : ObjM h x dx C mA) : ∃ od, PySem.W.InstAt h x (PySem.W.instObj C dx) C (some od) ∧ ∀ name, PySem.W.lookIn name od = some (mA name) :=
  let ⟨od, ho, hl⟩ := lookIn_ns I.ns
  ⟨od, ⟨I.obj, rfl, rfl, ho⟩, hl⟩

section
variable {prog : Program} {w : World} {A : Around} {E : Value → Shared → Prop} {s : Shared} {K : PySem.W.Frag} {x dx C f : Addr} {mA : Str → Option Value} {name : Str} {v : Value}

theorem get_map {expr : Bool} {Q : Value → Shared → Prop} (X : K.In s.heap) (I : ObjM s.heap x dx C mA) (hg : PySem.W.plainGet K C name = true) (hh : PySem.W.hasDictIn K C = true)
    (ha : PySem.W.findIn K (.ref C) name = some none) (hv : mA name = some v) (hv' : PySem.W.handedIn v = true) (h : Q v { s with toks := s.toks + 1 }) :
    wpAny (model prog w) A (getAttr (.ref x) name expr) Q E s := by
  obtain ⟨od, J, hl⟩ := I.look
  exact PySem.W.get_value X J (PySem.W.plainGet_of hg).1 (PySem.W.findObj_own hh ha rfl (by rw [hl, hv])) hv' h

theorem get_const {expr : Bool} {a : Value} {Q : Value → Shared → Prop} (X : K.In s.heap) (I : ObjM s.heap x dx C mA) (hg : PySem.W.plainGet K C name = true) (hh : PySem.W.hasDictIn K C = true)
    (ha : PySem.W.findIn K (.ref C) name = some (some a)) (hn : PySem.W.specialIn K a "__get__" = some none) (hc : PySem.W.copiedNames.contains name = false) (hv : mA name = none) (hv' : PySem.W.handedIn a = true)
    (h : Q a { s with toks := s.toks + 1 }) : wpAny (model prog w) A (getAttr (.ref x) name expr) Q E s := by
  obtain ⟨od, J, hl⟩ := I.look
  exact PySem.W.get_value X J (PySem.W.plainGet_of hg).1 (PySem.W.findObj_cls hh ha hn hv' hc (by rw [hl, hv])) hv' h

theorem get_meth {pl : Sem Bool} {Q : Value × List Value → Shared → Prop} (X : K.In s.heap) (I : ObjM s.heap x dx C mA) (hg : PySem.W.plainGet K C name = true)
    (hf : PySem.W.findIn K (.ref C) name = some (some (.ref f))) (ht : PySem.W.isFn K (.ref f) = true) (hv : mA name = none) (h : Q (.ref f, [.ref x]) s) :
    wpAny (model prog w) A (getMethod (.ref x) name pl) Q E s := by
  obtain ⟨od, J, hl⟩ := I.look
  exact PySem.W.method_fn X J (PySem.W.plainGet_of hg).1 (PySem.W.plainGet_of hg).2 hf (beq_iff_eq.mp ht) (by show (PySem.W.lookIn name od).map (·.isSome) = some false; rw [hl, hv]; rfl) h

theorem set_map {ns : List Str} {Q : Unit → Shared → Prop} (X : K.In s.heap) (I : ObjM s.heap x dx C mA)
    (hs : PySem.W.findIn K (.ref C) "__setattr__" = some (some (.builtin "object.__setattr__"))) (hp : PySem.W.plainOver K C = true) (ht : PySem.W.takerIn K C name = some none) (hh : PySem.W.hasDictIn K C = true)
    (hw : PySem.Within mA ns) (hsz : ns.length ≤ sizeLine)
    (h : ∀ h', ObjM h' x dx C (fun y => if y = name then some v else mA y) → Heap.SameBut dx s.heap h' → Q () { s with heap := h', toks := s.toks + 2 }) :
    wpAny (model prog w) A (setAttr (.ref x) name v) Q E s := by
  obtain ⟨od, J, hl⟩ := I.look
  refine PySem.W.set_plain X J hs (PySem.W.osa_open (s := { s with toks := s.toks + 1 }) (r := none) X J hp ht fun b => ?_)
  obtain ⟨cd, hc, hd'⟩ := PySem.W.any_some hh
  have hx : s.heap.get? x = some ⟨.ref C, some dx, .plain, #[]⟩ := I.obj
  refine wpAny_bind (wpAny_pure (wpAny_bind (wpAny_bind (wpAny_loadPart hx (wpAny_bind (PySem.W.Looks.here (s := { s with toks := s.toks + 1 }) (PySem.W.looks_clsIn X hc) ?_))))))
  rw [hd']
  refine wpAny_pure (a := some dx) (wpAny_bind (wpAny_pure (wpAny_bind ?_)))
  refine wpAny_nsSet1 (s := { s with toks := s.toks + 1 }) I.ns fun h' hn2 hs2 => ?_
  obtain ⟨oD, esD, epD, hoD, hdD, hcD⟩ := hn2.count (PySem.Within.cons name v hw)
  refine wpAny_bind (wpAny_lookBehind hoD (by rw [hdD]; exact pastItsLine_dict (Nat.le_trans hcD (by rw [List.length_cons]; omega))) ?_)
  exact wpAny_pure (h _ ⟨(hs2.2 _ (Ne.symm I.ne)).trans I.obj, hn2, I.ne⟩ hs2)

/-- C(..): the dict at the heap's end, the instance behind it; then its __init__ -/
theorem make_map {R : Result → Shared → Prop} {vs : List Value} {kw : List (Str × Value)} (X : K.In s.heap) (hm : PySem.W.makesIn K C = true)
    (hi : PySem.W.findIn K (.ref C) "__init__" = some (some (.ref f))) (hf : PySem.W.typeIn K (.ref f) = some (.type "function"))
    (h : codeAny (model prog w) (A.under (.builtin "type.__call__" ⟨.ref C :: vs, kw⟩)) (.call (.ref f) ⟨.ref (s.heap.objs.size + 1) :: vs, kw⟩) (PySem.W.InitBack (s.heap.objs.size + 1) R)
      { s with heap := (s.heap.push PySem.W.emptyDict).push (PySem.W.instObj C s.heap.objs.size) }) :
    codeAny (model prog w) A (.call (.ref C) ⟨vs, kw⟩) R s := by
  obtain ⟨hh, g, d, t, os⟩ := s
  exact PySem.W.make_core (PySem.W.makes_of X hm) (PySem.W.looks_findIn X hi) (fun self => PySem.W.bind_fn X self hf) (.inl rfl) h
/-- C() where there is no __init__ but object's -/
theorem make_map0 {R : Result → Shared → Prop} (X : K.In s.heap) (hm : PySem.W.makesIn K C = true)
    (hi : PySem.W.findIn K (.ref C) "__init__" = some (some (.builtin "object.__init__")))
    (hb : ∀ self, PySem.W.Looks (model prog w) s.heap (bindSpecial (.builtin "object.__init__") self) (.builtin "object.__init__", [self]))
    (h : codeAny (model prog w) (A.under (.builtin "type.__call__" ⟨[.ref C], []⟩)) (.call (.builtin "object.__init__") ⟨[.ref (s.heap.objs.size + 1)], []⟩) (PySem.W.InitBack (s.heap.objs.size + 1) R)
      { s with heap := (s.heap.push PySem.W.emptyDict).push (PySem.W.instObj C s.heap.objs.size) }) :
    codeAny (model prog w) A (.call (.ref C) ⟨[], []⟩) R s := by
  obtain ⟨hh, g, d, t, os⟩ := s
  exact PySem.W.make_core (PySem.W.makes_of X hm) (PySem.W.looks_findIn X hi) hb (.inr ⟨rfl, rfl⟩) h
end

/-! ### the attributes as a list of pairs -/
def putF (f : Str) (v : V) : List (Str × V) → List (Str × V)
  | [] => [(f, v)]
  | (g, x) :: r => if g = f then (g, v) :: r else (g, x) :: putF f v r
theorem lookup_putF (f g : Str) (v : V) : ∀ fs : List (Str × V), (putF f v fs).lookup g = if g = f then some v else fs.lookup g
  | [] => by
    show List.lookup g [(f, v)] = _
    by_cases h : g = f
    · have hb : (g == f) = true := beq_iff_eq.mpr h
      simp only [List.lookup, hb, if_pos h]
    · have hb : (g == f) = false := beq_eq_false_iff_ne.mpr h
      simp only [List.lookup, hb, if_neg h]
  | (k, x) :: r => by
    have ih := lookup_putF f g v r
    rw [show putF f v ((k, x) :: r) = (if k = f then (k, v) :: r else (k, x) :: putF f v r) from rfl]
    by_cases hk : k = f
    · rw [if_pos hk]
      by_cases h : g = k
      · have hb : (g == k) = true := beq_iff_eq.mpr h
        simp only [List.lookup, hb, if_pos (h.trans hk)]
      · have hb : (g == k) = false := beq_eq_false_iff_ne.mpr h
        simp only [List.lookup, hb, if_neg (fun e : g = f => h (e.trans hk.symm))]
    · rw [if_neg hk]
      by_cases h : g = k
      · have hb : (g == k) = true := beq_iff_eq.mpr h
        simp only [List.lookup, hb, if_neg (fun e : g = f => hk (h.symm.trans e))]
      · have hb : (g == k) = false := beq_eq_false_iff_ne.mpr h
        simp only [List.lookup, hb]
        exact ih
theorem keys_putF (f : Str) (v : V) : ∀ fs : List (Str × V), f ∈ (putF f v fs).map (·.1) ∧ ∀ g, g ∈ fs.map (·.1) → g ∈ (putF f v fs).map (·.1)
  | [] => ⟨by simp [putF], fun g h => by simp at h⟩
  | (k, x) :: r => by
    obtain ⟨i1, i2⟩ := keys_putF f v r
    rw [show putF f v ((k, x) :: r) = (if k = f then (k, v) :: r else (k, x) :: putF f v r) from rfl]
    by_cases hk : k = f
    · rw [if_pos hk]
      subst hk
      exact ⟨by simp, fun g h => by simpa using h⟩
    · rw [if_neg hk]
      refine ⟨?_, fun g h => ?_⟩
      · rw [List.map_cons]
        exact List.mem_cons_of_mem _ i1
      · rw [List.map_cons] at h ⊢
        rcases List.mem_cons.mp h with e | e
        · exact List.mem_cons.mpr (.inl e)
        · exact List.mem_cons_of_mem _ (i2 g e)
theorem length_putF (f : Str) (v : V) : ∀ fs : List (Str × V), (putF f v fs).length ≤ fs.length + 1
  | [] => by simp [putF]
  | (k, x) :: r => by
    have ih := length_putF f v r
    rw [show putF f v ((k, x) :: r) = (if k = f then (k, v) :: r else (k, x) :: putF f v r) from rfl]
    by_cases hk : k = f
    · rw [if_pos hk, List.length_cons, List.length_cons]; omega
    · rw [if_neg hk, List.length_cons, List.length_cons]; omega

theorem RelO.some_of {v : V} {o : Option Value} (r : RelO (some v) o) : ∃ u, o = some u ∧ RelV v u := by
  cases o with
  | none => exact (show False from r).elim
  | some u => exact ⟨u, rfl, r⟩
theorem RelO.none_of {o : Option Value} (r : RelO none o) : o = none := by
  cases o with
  | none => rfl
  | some u => exact (show False from r).elim
theorem handed_of {v : V} {u : Value} (r : RelV v u) : PySem.W.handedIn u = true := by
  cases v with
  | non => cases (show u = Value.none from r); rfl
  | bl b => cases (show u = Value.bool b from r); rfl
  | int i => obtain ⟨t, e⟩ := (show ∃ t, u = Value.int i t from r); cases e; rfl
  | str x => obtain ⟨t, e⟩ := (show ∃ t, u = Value.str x t from r); cases e; rfl
  | byt b => obtain ⟨t, e⟩ := (show ∃ t, u = Value.bytes b t from r); cases e; rfl
  | flt b => obtain ⟨t, e⟩ := (show ∃ t, u = Value.float b t from r); cases e; rfl
  | ref a => cases (show u = Value.ref a from r); rfl
  | ty n => cases (show u = Value.type n from r); rfl

section
variable {P : Program} {w : World} {H H' : Hp} {h h' : Heap} {a C dx : Addr} {fs fs' : List (Str × V)}
theorem ins_get (hok : HOk P w H h) (e : H a = some (.ins C dx fs)) : ∃ mA, ObjM h a dx C mA ∧ (∀ f, RelO (fs.lookup f) (mA f)) ∧ PySem.Within mA (fs.map (·.1)) ∧ fs.length ≤ 1000 ∧ H dx = some (.own a) := by
  obtain ⟨d, z, ne, ob, mA, n, r, q⟩ := (show ObjOk P w H h a (.ins C dx fs) from hok a _ e)
  exact ⟨mA, ⟨ob, n, ne⟩, r, q, z, d⟩
end

/-! ### what of the text a class must have -/
structure Cls (K : PySem.W.Frag) (C : Addr) : Prop where
  pg : PySem.W.plainGet K C Str.empty = true
  hd : PySem.W.hasDictIn K C = true
  po : PySem.W.plainOver K C = true
  sa : PySem.W.findIn K (.ref C) "__setattr__" = some (some (.builtin "object.__setattr__"))
theorem Cls.get {K : PySem.W.Frag} {C : Addr} (c : Cls K C) (f : Str) : PySem.W.plainGet K C f = true := c.pg
/-- no class of it has the name -/
def NoAttr (K : PySem.W.Frag) (C : Addr) (f : Str) : Prop := PySem.W.findIn K (.ref C) f = some none
theorem NoAttr.taker {K : PySem.W.Frag} {C : Addr} {f : Str} (n : NoAttr K C f) : PySem.W.takerIn K C f = some none := by
  unfold PySem.W.takerIn
  rw [show PySem.W.findIn K (.ref C) f = some none from n]
  rfl
/-- a constant of the class -/
structure Con (K : PySem.W.Frag) (C : Addr) (f : Str) (v : V) (u : Value) : Prop where
  at_ : PySem.W.findIn K (.ref C) f = some (some u)
  rel : RelV v u
  get : PySem.W.specialIn K u "__get__" = some none
  cp : PySem.W.copiedNames.contains f = false
/-- a method: a plain def of the class or of one above it -/
structure Meth (K : PySem.W.Frag) (C : Addr) (m : Str) (f : Addr) : Prop where
  at_ : PySem.W.findIn K (.ref C) m = some (some (.ref f))
  fn : PySem.W.isFn K (.ref f) = true
  kp : PySem.W.keepIn K (.ref f) = true

section
variable {X : Cx} {pins : List (Addr × Obj)} {σ : St} {H : Hp} {s : Shared} {a C dx : Addr} {fs : List (Str × V)} {f : Str} {v : V} {A : Around} {E : Value → Shared → Prop}

theorem getattr_ok {b : Bool} {Q : Value → Shared → Prop} (I : Inv X pins σ H s) (e : H a = some (.ins C dx fs)) (c : Cls X.K C) (n : NoAttr X.K C f) (l : fs.lookup f = some v)
    (h : ∀ u s', Inv X pins σ H s' → RelV v u → Q u s') : wpAny (model X.prog X.w) A (getAttr (.ref a) f b) Q E s := by
  obtain ⟨mA, O, r, _, _, _⟩ := ins_get I.hok e
  obtain ⟨u, hu, ru⟩ := RelO.some_of (v := v) (o := mA f) (by rw [← l]; exact r f)
  exact get_map I.kIn O (c.get f) c.hd n hu (handed_of ru) (h u _ (I.tok _) ru)

theorem getcon_ok {b : Bool} {u : Value} {Q : Value → Shared → Prop} (I : Inv X pins σ H s) (e : H a = some (.ins C dx fs)) (c : Cls X.K C) (k : Con X.K C f v u) (l : fs.lookup f = none)
    (h : ∀ s', Inv X pins σ H s' → Q u s') : wpAny (model X.prog X.w) A (getAttr (.ref a) f b) Q E s := by
  obtain ⟨mA, O, r, _, _, _⟩ := ins_get I.hok e
  have hn : mA f = none := RelO.none_of (by rw [← l]; exact r f)
  exact get_const I.kIn O (c.get f) c.hd k.at_ k.get k.cp hn (handed_of k.rel) (h _ (I.tok _))

theorem getmeth_ok {m : Str} {g : Addr} {pl : Sem Bool} {Q : Value × List Value → Shared → Prop} (I : Inv X pins σ H s) (e : H a = some (.ins C dx fs)) (c : Cls X.K C) (k : Meth X.K C m g) (l : fs.lookup m = none)
    (h : Q (.ref g, [.ref a]) s) : wpAny (model X.prog X.w) A (getMethod (.ref a) m pl) Q E s := by
  obtain ⟨mA, O, r, _, _, _⟩ := ins_get I.hok e
  have hn : mA m = none := RelO.none_of (by rw [← l]; exact r m)
  exact get_meth I.kIn O (c.get m) k.at_ k.fn hn h

theorem setattr_ok {y : V} {u : Value} {Q : Unit → Shared → Prop} (I : Inv X pins σ H s) (e : H a = some (.ins C dx fs)) (c : Cls X.K C) (n : NoAttr X.K C f) (hl : fs.length < 1000) (ry : RelV y u)
    (h : ∀ s', Inv X pins σ (upd H a (.ins C dx (putF f y fs))) s' → Q () s') : wpAny (model X.prog X.w) A (setAttr (.ref a) f u) Q E s := by
  obtain ⟨mA, O, r, wi, _, ho⟩ := ins_get I.hok e
  have hz : (fs.map (·.1)).length ≤ sizeLine := by rw [List.length_map, sizeLine_eq]; omega
  refine set_map I.kIn O c.sa c.po n.taker c.hd wi hz fun h' O' sb => h _ ?_
  have hd : ∃ o, h'.get? dx = some o := let ⟨o, _, _, e', _⟩ := O'.ns; ⟨o, e'⟩
  refine I.write (x := a) (e := dx) (by rw [e]; exact True.intro) (.inr ho) (fun b q hb z => (sb.2 b hb).trans z) hd ?_
  refine ⟨by rw [upd_ne O.ne]; exact ho, ?_, O.ne, O'.obj, _, O'.ns, fun g => ?_, fun g hg => ?_⟩
  · have := length_putF f y fs; omega
  · show RelO ((putF f y fs).lookup g) (if g = f then some u else mA g)
    rw [lookup_putF]
    by_cases q : g = f
    · rw [if_pos q, if_pos q]; exact ry
    · rw [if_neg q, if_neg q]; exact r g
  · by_cases q : g = f
    · rw [q]; exact (keys_putF f y fs).1
    · refine (keys_putF f y fs).2 g (wi g fun z => hg ?_)
      show (if g = f then some u else mA g) = none
      rw [if_neg q]; exact z

/-- a new instance, tracked, without attributes -/
theorem Inv.made (I : Inv X pins σ H s) : Inv X pins σ (upd (upd H s.heap.objs.size (.own (s.heap.objs.size + 1))) (s.heap.objs.size + 1) (.ins C s.heap.objs.size []))
    { s with heap := (s.heap.push PySem.W.emptyDict).push (PySem.W.instObj C s.heap.objs.size) } := by
  have e1 : (s.heap.push PySem.W.emptyDict).get? s.heap.objs.size = some PySem.W.emptyDict := Heap.get?_push_size s.heap rfl
  have e2 : ((s.heap.push PySem.W.emptyDict).push (PySem.W.instObj C s.heap.objs.size)).get? (s.heap.objs.size + 1) = some (PySem.W.instObj C s.heap.objs.size) := by
    have := Heap.get?_push_size (s.heap.push PySem.W.emptyDict) (o := PySem.W.instObj C s.heap.objs.size) rfl
    rwa [Heap.size_push] at this
  have e3 : (s.heap.push PySem.W.emptyDict).Ns s.heap.objs.size (fun _ => none) := ⟨PySem.W.emptyDict, #[], _, e1, rfl, (fun e he => absurd he (by simp)), fun _ => rfl⟩
  have I1 := I.laid (a := s.heap.objs.size) (o := .own (s.heap.objs.size + 1)) (h' := s.heap.push PySem.W.emptyDict) (t' := s.toks) (fun b u q => Heap.get?_push_of_some _ q) (Nat.le_refl _) ⟨_, e1⟩
  refine I1.laid (a := s.heap.objs.size + 1) (o := .ins C s.heap.objs.size []) (t' := s.toks) (fun b u q => Heap.get?_push_of_some _ q) (Nat.le_of_eq (Heap.size_push _ _)) ?_
  have ne : s.heap.objs.size ≠ s.heap.objs.size + 1 := Nat.ne_of_lt (Nat.lt_succ_self _)
  refine ⟨by rw [upd_ne ne, upd_same], Nat.zero_le _, ne, e2, fun _ => none, (Heap.Ns1.of_empty e3).at fun o q => Heap.get?_push_of_some _ q, fun _ => True.intro, fun y hy => absurd rfl hy⟩

/-- e.f where nothing but the object is asked: through attributeBase (super) and the last hold -/
theorem attr_of {prog : Program} {w : World} {env : Env} {e : Expr} {f : Str} {pos : Pos} {s : Shared} {Q : Value → Shared → Prop} (hb : attributeBase e f env (eval e env) = eval e env)
    (h : wpAny (model prog w) A (eval e env) (fun o s₁ => wpAny (model prog w) A (getAttr o f true) Q E s₁) E s) : wpAny (model prog w) A (eval (.Attribute e f pos) env) Q E s :=
  Attribute_any_ h (by rw [arm_eval_Attribute, hb])
end

/-! ### readings and rules -/
/-- e.f, an attribute of the instance -/
def tFld (K : PySem.W.Frag) (ta : TE) (f : Str) : TE := fun σ H Q => ta σ H fun x H1 => ∃ a C dx fs v, x = .ref a ∧ H1 a = some (.ins C dx fs) ∧ Cls K C ∧ NoAttr K C f ∧ fs.lookup f = some v ∧ Q v H1
/-- e.f, a constant of the class -/
def tCon (K : PySem.W.Frag) (ta : TE) (f : Str) : TE := fun σ H Q => ta σ H fun x H1 => ∃ a C dx fs v u, x = .ref a ∧ H1 a = some (.ins C dx fs) ∧ Cls K C ∧ Con K C f v u ∧ fs.lookup f = none ∧ Q v H1
/-- e.f = value -/
def sFld (K : PySem.W.Frag) (ta tv : TE) (f : Str) : TS := fun D σ H => tv σ H fun y H1 => ta σ H1 fun x H2 => ∃ a C dx fs, x = .ref a ∧ H2 a = some (.ins C dx fs) ∧ Cls K C ∧ NoAttr K C f ∧ fs.length < 1000 ∧
  D.nx σ (upd H2 a (.ins C dx (putF f y fs)))
/-- an augmented operator on two values -/
def InOp (X : Cx) (op : Operator) (rd : V → V → Hp → VK → Prop) : Prop :=
  ∀ (pins : List (Addr × Obj)) (s : Shared) (σ : St) (H : Hp) (x y : V) (u v : Value) (Q : VK), Inv X pins σ H s → RelV x u → RelV y v → rd x y H Q → wpAny (model X.prog X.w) X.A (inplaceOp op u v) (EP X pins σ Q) X.xe s
/-- e.f op= value -/
def sFldAug (K : PySem.W.Frag) (ta tv : TE) (rd : V → V → Hp → VK → Prop) (f : Str) : TS := fun D σ H => ta σ H fun x H1 => ∃ a C dx fs v, x = .ref a ∧ H1 a = some (.ins C dx fs) ∧ Cls K C ∧ NoAttr K C f ∧ fs.lookup f = some v ∧
  tv σ H1 fun y H2 => rd v y H2 fun z H3 => ∃ dx' fs', H3 a = some (.ins C dx' fs') ∧ fs'.length < 1000 ∧ D.nx σ (upd H3 a (.ins C dx' (putF f z fs')))

section
variable {X : Cx} {o e value : Expr} {f : Str} {pos pos' tpos : Pos} {ta tv : TE}
theorem pe_fld (he : PE X e ta) (hb : attributeBase e f X.env (eval e X.env) = eval e X.env) : PE X (.Attribute e f pos) (tFld X.K ta f) := by
  intro pins s σ H Q I h
  refine attr_of hb (thn (he pins s σ H _ I h) fun u s1 ⟨x, H1, I1, rx, a, C, dx, fs, v, ex, ea, c, n, l, q⟩ => ?_)
  subst ex
  obtain rfl : u = Value.ref a := rx
  exact getattr_ok I1 ea c n l fun u' s2 I2 ru => ⟨v, H1, I2, ru, q⟩
theorem pe_con (he : PE X e ta) (hb : attributeBase e f X.env (eval e X.env) = eval e X.env) : PE X (.Attribute e f pos) (tCon X.K ta f) := by
  intro pins s σ H Q I h
  refine attr_of hb (thn (he pins s σ H _ I h) fun u s1 ⟨x, H1, I1, rx, a, C, dx, fs, v, u0, ex, ea, c, k, l, q⟩ => ?_)
  subst ex
  obtain rfl : u = Value.ref a := rx
  exact getcon_ok I1 ea c k l fun s2 I2 => ⟨v, H1, I2, k.rel, q⟩
theorem ps_fld (ha : PE X o ta) (hv : PE X value tv) (hs : swapsWith value (some (.Attribute o f pos')) pos.line X.env = pure false) : PS X (.Assign [.Attribute o f pos'] value pos) (sFld X.K ta tv f) := by
  intro pins s σ H D I h
  refine plainObj_wpAny_Assign_Attribute (thn (hv pins s σ H _ I h) fun u s1 ⟨y, H1, I1, ry, q⟩ => thn (ha pins s1 σ H1 _ I1 q) fun ov s2 ⟨x, H2, I2, rx, a, C, dx, fs, ex, ea, c, n, l, q2⟩ => ?_) hs
  subst ex
  obtain rfl : ov = Value.ref a := rx
  exact setattr_ok I2 ea c n l ry fun s3 I3 => ⟨σ, _, I3, q2⟩
theorem ps_fldaug {op : Operator} {rd : V → V → Hp → VK → Prop} (ha : PE X o ta) (hv : PE X value tv) (hop : InOp X op rd) : PS X (.AugAssign (.Attribute o f tpos) op value pos) (sFldAug X.K ta tv rd f) := by
  intro pins s σ H D I h
  refine wpAny_AugAssign_AttributeAny (thn (ha pins s σ H _ I h) fun ov s1 ⟨x, H1, I1, rx, a, C, dx, fs, v, ex, ea, c, n, l, q⟩ => ?_)
  subst ex
  obtain rfl : ov = Value.ref a := rx
  refine getattr_ok I1 ea c n l fun u s2 I2 ru => thn (hv pins s2 σ H1 _ I2 q) fun w3 s3 ⟨y, H2, I3, ry, q3⟩ => thn (hop pins s3 σ H2 v y u w3 _ I3 ru ry q3) fun w4 s4 ⟨z, H3, I4, rz, dx', fs', ea', l', q4⟩ => ?_
  exact setattr_ok I4 ea' c n l' rz fun s5 I5 => ⟨σ, _, I5, q4⟩
def rAdd : V → V → Hp → VK → Prop := fun x y H Q => ∃ i j, x = .int i ∧ y = .int j ∧ Q (.int (i + j)) H
def rSub : V → V → Hp → VK → Prop := fun x y H Q => ∃ i j, x = .int i ∧ y = .int j ∧ Q (.int (i - j)) H
theorem in_add : InOp X .Add rAdd := by
  rintro pins s σ H x y u v Q I rx ry ⟨i, j, rfl, rfl, q⟩
  obtain ⟨t, rfl⟩ := (show ∃ t, u = Value.int i t from rx)
  obtain ⟨t', rfl⟩ := (show ∃ t', v = Value.int j t' from ry)
  exact PyProof.Rows.iadd_int ⟨.int (i + j), H, I.tok _, ⟨_, rfl⟩, q⟩
theorem in_sub : InOp X .Sub rSub := by
  rintro pins s σ H x y u v Q I rx ry ⟨i, j, rfl, rfl, q⟩
  obtain ⟨t, rfl⟩ := (show ∃ t, u = Value.int i t from rx)
  obtain ⟨t', rfl⟩ := (show ∃ t', v = Value.int j t' from ry)
  exact PyProof.Rows.isub_int ⟨.int (i - j), H, I.tok _, ⟨_, rfl⟩, q⟩

/-- what is between an instance and its method: the tree of a method call -/
theorem methcall_of {pl : Sem Bool} {m : Str} {apos : Pos} {args : List Expr} {pins : List (Addr × Obj)} {s : Shared} {σ : St} {H : Hp} {Q : Value → Shared → Prop} {te : TE} (he : PE X e te) (I : Inv X pins σ H s)
    (h : te σ H fun x H1 => ∃ a C dx fs g, x = .ref a ∧ H1 a = some (.ins C dx fs) ∧ Cls X.K C ∧ Meth X.K C m g ∧ fs.lookup m = none ∧
      ∀ s1, Inv X pins σ H1 s1 → wpAny (model X.prog X.w) X.A (callWith pos (.ref g) [.ref a] (backTo pos (starEach args X.env)) (backToKw pos (keywordEach [] X.env))) Q X.xe s1)
    (ht : eval (.Call (.Attribute e m apos) args [] pos) X.env = (do
      let ov ← eval e X.env
      standAt apos.atName
      let (f, first) ← holding [ov] (getMethod ov m pl)
      callWith pos f first (backTo pos (starEach args X.env)) (backToKw pos (keywordEach [] X.env)))) :
    wpAny (model X.prog X.w) X.A (eval (.Call (.Attribute e m apos) args [] pos) X.env) Q X.xe s := by
  refine PySem.W.methodCall_KW (pl := pl) (thn (he pins s σ H _ I h) fun u s1 ⟨x, H1, I1, rx, a, C, dx, fs, g, ex, ea, c, k, l, q⟩ => ?_) ht
  subst ex
  obtain rfl : u = Value.ref a := rx
  exact getmeth_ok I1 ea c k l (q s1 I1)
end

/-! ### isinstance -/
section
variable {X : Cx} {pins : List (Addr × Obj)} {σ : St} {H : Hp} {s : Shared} {A : Around} {E : Value → Shared → Prop} {Q : Value → Shared → Prop} {c : Value} {b : Bool}
/-- the type of a value, as the fragment's deciders take it; for an instance its class -/
inductive TyOf (K : PySem.W.Frag) (H : Hp) : V → Value → Prop where
  | non : TyOf K H .non (.type "NoneType")
  | bl (x : Bool) : TyOf K H (.bl x) (.type "bool")
  | int (i : Int) : TyOf K H (.int i) (.type "int")
  | str (x : Str) : TyOf K H (.str x) (.type "str")
  | flt (x : UInt64) : TyOf K H (.flt x) (.type "float")
  | lst {a : Addr} {xs : List V} (e : H a = some (.lst xs)) : TyOf K H (.ref a) (.type "list")
  | frz {a : Addr} {o : Obj} {xs : List V} (e : H a = some (.frz o (.lst xs))) : TyOf K H (.ref a) (.type "list")
  | tup {a : Addr} {xs : List V} (e : H a = some (.tup xs)) : TyOf K H (.ref a) (.type "tuple")
  | dK {a : Addr} {kvs : List (Key × V)} (e : H a = some (.dK kvs)) : TyOf K H (.ref a) (.type "dict")
  | dT {a : Addr} {kvs : List (List Key × V)} (e : H a = some (.dT kvs)) : TyOf K H (.ref a) (.type "dict")
  | ins {a C dx : Addr} {fs : List (Str × V)} (e : H a = some (.ins C dx fs)) (cl : Cls K C) (ha : PySem.W.findIn K (.ref C) "__class__" = some (some (.builtin "object.__class__")))
      (hn : PySem.W.specialIn K (.builtin "object.__class__") "__get__" = some (some (.builtin "getset_descriptor.__get__"))) (htk : PySem.W.takesIn K (.builtin "object.__class__") = some true)
      (hm : PySem.W.mroIn K C (.type "object") = some true) : TyOf K H (.ref a) (.ref C)
/-- isinstance(x, c) for one class c, a built-in or an own one: kitOne's answer -/
theorem isinst_ok {x : V} {u t : Value} (I : Inv X pins σ H s) (rx : RelV x u) (ty : TyOf X.K H x t) (e : PySem.W.kitOne X.K t c = some b) (h : ∀ tk, Q (.bool b) { s with toks := tk }) :
    wpAny (model X.prog X.w) A (call (.builtin "isinstance") [u, c]) Q E s := by
  cases ty with
  | non => cases (show u = Value.none from rx); exact PySem.W.kia_one PySem.W.kitx_none I.kIn True.intro e (fun z => nomatch z) h
  | bl y => cases (show u = Value.bool y from rx); exact PySem.W.kia_one PySem.W.kitx_bool I.kIn True.intro e (fun z => nomatch z) h
  | int i => obtain ⟨t, q⟩ := (show ∃ t, u = Value.int i t from rx); cases q; exact PySem.W.kia_one PySem.W.kitx_int I.kIn True.intro e (fun z => nomatch z) h
  | str y => obtain ⟨t, q⟩ := (show ∃ t, u = Value.str y t from rx); cases q; exact PySem.W.kia_one PySem.W.kitx_str I.kIn True.intro e (fun z => nomatch z) h
  | flt y => obtain ⟨t, q⟩ := (show ∃ t, u = Value.float y t from rx); cases q; exact PySem.W.kia_one PySem.W.kitx_float I.kIn True.intro e (fun z => nomatch z) h
  | @lst a xs ea =>
    cases (show u = Value.ref a from rx)
    obtain ⟨_, _, n, _, h1⟩ := (show ObjOk X.prog X.w H s.heap a (.lst xs) from I.hok a _ ea)
    exact PySem.W.kia_one PySem.W.kitx_list I.kIn ⟨_, h1, rfl⟩ e (fun z => nomatch z) h
  | @frz a ob xs ea =>
    cases (show u = Value.ref a from rx)
    obtain ⟨_, _, _, n, _, h1⟩ := (show ObjOk X.prog X.w H s.heap a (.frz ob (.lst xs)) from I.hok a _ ea)
    exact PySem.W.kia_one PySem.W.kitx_list I.kIn ⟨_, h1, rfl⟩ e (fun z => nomatch z) h
  | @tup a xs ea =>
    cases (show u = Value.ref a from rx)
    obtain ⟨_, _, _, p⟩ := (show ObjOk X.prog X.w H s.heap a (.tup xs) from I.hok a _ ea)
    obtain ⟨o, h1, h2, _⟩ := p
    exact PySem.W.kia_one PySem.W.kitx_tuple I.kIn ⟨o, h1, h2⟩ e (fun z => nomatch z) h
  | @dK a kvs ea =>
    cases (show u = Value.ref a from rx)
    obtain ⟨_, _, vs, _, p⟩ := (show ObjOk X.prog X.w H s.heap a (.dK kvs) from I.hok a _ ea)
    obtain ⟨o, es, ep, h1, h2, _⟩ := p
    exact PySem.W.kia_one PySem.W.kitx_dict I.kIn ⟨o, h1, h2.1⟩ e (fun z => nomatch z) h
  | @dT a kvs ea =>
    cases (show u = Value.ref a from rx)
    obtain ⟨_, _, xs, _, o, es, ep, h1, h2, _⟩ := (show ObjOk X.prog X.w H s.heap a (.dT kvs) from I.hok a _ ea)
    exact PySem.W.kia_one PySem.W.kitx_dict I.kIn ⟨o, h1, h2.1⟩ e (fun z => nomatch z) h
  | @ins a C dx fs ea cl ha hn htk hm =>
    cases (show u = Value.ref a from rx)
    obtain ⟨mA, O, _⟩ := ins_get I.hok ea
    obtain ⟨od, J, _⟩ := O.look
    exact PySem.W.kia_one (PySem.W.kitx_own (cl.get _) cl.hd ha hn htk hm) I.kIn J e (fun z => nomatch z) h
end
end L2

namespace L2
open PySem PySem.Spec PyProof.Rows

/-! ### room -/
structure Room (k : Nat) (A : Around) : Prop where
  hd : A.handled = none
  dp : A.depth + 3 * k + 5 < recursionLimit
  un : A.units + 16 * k + 200 < cLine
theorem Room.mono {j k : Nat} {A : Around} (r : Room k A) (h : j ≤ k) : Room j A := ⟨r.hd, by have := r.dp; omega, by have := r.un; omega⟩
theorem Room.deeper {k : Nat} {A : Around} (r : Room (k + 1) A) (env : Env) : Room k (A.deeper env) :=
  ⟨r.hd, by have := r.dp; show A.depth + 1 + 3 * k + 5 < _; omega, by have := r.un; show A.units + 3 + 16 * k + 200 < _; omega⟩
theorem Room.in1 {k : Nat} {A : Around} (r : Room (k + 1) A) : Room k A.in1 :=
  ⟨r.hd, by have := r.dp; show A.depth + 3 * k + 5 < _; omega, by have := r.un; show A.units + 1 + 16 * k + 200 < _; omega⟩
theorem make_depth {A : Around} {C : Addr} {us : List Value} {kw : List (Str × Value)} : (A.under (.builtin "type.__call__" ⟨.ref C :: us, kw⟩)).depth = A.depth + 1 := by
  first | rfl | simp [Around.under, Code.weight, Code.isCreation, Code.isGuard, Code.isCaller, Code.frames, Code.isFrame, guardIds]
theorem make_units {A : Around} {C : Addr} {us : List Value} {kw : List (Str × Value)} : (A.under (.builtin "type.__call__" ⟨.ref C :: us, kw⟩)).units = A.units + 1 := by
  first | rfl | simp [Around.under, Code.cUnits, Code.frames, Code.isFrame]
theorem Room.make {k : Nat} {A : Around} (r : Room (k + 1) A) (C : Addr) (us : List Value) (kw : List (Str × Value)) : Room k (A.under (.builtin "type.__call__" ⟨.ref C :: us, kw⟩)) :=
  ⟨r.hd, by have := r.dp; rw [make_depth]; omega, by have := r.un; rw [make_units]; omega⟩
theorem Room.depth {k : Nat} {A : Around} (r : Room k A) : A.depth < recursionLimit := by have := r.dp; omega
theorem Room.units {k : Nat} {A : Around} (r : Room k A) : A.units + 64 < cLine := by have := r.un; omega
theorem Room.units0 {k : Nat} {A : Around} (r : Room k A) : A.units < cLine := by have := r.un; omega

/-! ### argument lists and displays -/
def tNil : TA := fun _ H Q => Q [] H
def tCons (ta : TE) (tr : TA) : TA := fun σ H Q => ta σ H fun x H1 => tr σ H1 fun xs H2 => Q (x :: xs) H2
section
variable {X : Cx} {e : Expr} {es : List Expr} {te : TE} {t : TA} {pos : Pos}
theorem pa_nil : PA X [] tNil := fun _ _ _ _ H Q I h => Calls.spliced_nil ⟨[], H, I, .nil, h⟩
theorem pa_cons (ha : PE X e te) (hr : PA X es t) (hs : starEach (e :: es) X.env = (false, eval e X.env) :: starEach es X.env := by rfl) : PA X (e :: es) (tCons te t) := by
  intro pos pins s σ H Q I h
  rw [hs]
  show wpAny _ _ (spliced ((false, eval e X.env) :: backTo pos (starEach es X.env))) _ _ s
  refine Calls.spliced_cons (thn (ha pins s σ H _ I h) fun u s1 ⟨x, H1, I1, r1, q1⟩ => ?_)
  exact thn (hr pos pins s1 σ H1 _ I1 q1) fun us s2 ⟨xs, H2, I2, r2, q2⟩ => ⟨x :: xs, H2, I2, .cons r1 r2, q2⟩

/-- a tuple, a list of written items -/
def tTup (t : TA) : TE := fun σ H Q => t σ H fun xs H1 => xs.length ≤ sizeLine ∧ ∀ p, H1 p = none → Q (.ref p) (upd H1 p (.tup xs))
def tLst (t : TA) : TE := fun σ H Q => t σ H fun xs H1 => xs.length ≤ sizeLine ∧ ∀ p, H1 p = none → Q (.ref p) (upd H1 p (.lst xs))
theorem pe_tup {x1} (h : PA X es t) : PE X (.Tuple es x1 pos) (tTup t) := by
  intro pins s σ H Q I hq
  refine wpAny_Tuple_spliced (thn (h pos pins s σ H _ I hq) fun us s1 ⟨xs, H1, I1, r, z, q⟩ => ⟨by rw [← r.length]; exact z, ?_⟩)
  have hf : H1 s1.heap.objs.size = none := I1.hok.fresh (Nat.le_refl _)
  refine ⟨.ref s1.heap.objs.size, upd H1 s1.heap.objs.size (.tup xs), I1.laid (t' := s1.toks) (fun b u e => Heap.get?_push_of_some _ e) (Nat.le_refl _) ?_, rfl, q _ hf⟩
  exact ⟨z, us, r, ⟨_, Heap.get?_push_size _ rfl, rfl, _, rfl⟩⟩
theorem pe_lst (h : PA X es t) : PE X (.List es pos) (tLst t) := by
  intro pins s σ H Q I hq
  refine wpAny_List_spliced (thn (h pos pins s σ H _ I hq) fun us s1 ⟨xs, H1, I1, r, z, q⟩ => ⟨by rw [← r.length]; exact z, ?_⟩)
  have hf : H1 s1.heap.objs.size = none := I1.hok.fresh (Nat.le_refl _)
  refine ⟨.ref s1.heap.objs.size, upd H1 s1.heap.objs.size (.lst xs), I1.laid (t' := s1.toks) (fun b u e => Heap.get?_push_of_some _ e) (Nat.le_refl _) ?_, rfl, q _ hf⟩
  exact ⟨z, us, 0, r, Heap.get?_push_size _ rfl⟩
end

/-! ### what a def promises -/
/-- a def's promise: the bound arguments in the parameters' order, the heap, the wanted end, the wanted exception -/
abbrev Sp := List V → Hp → VK → XK → Prop
/-- how an exception lies behind a call (file 08 gives it): the callers' frames, abstract heap and state ahead of the call, the wish, the exception, the state -/
abbrev CXT := List Env → Hp → Shared → XK → Value → Shared → Prop

/-- the state at a call -/
structure Env0 (P : Program) (w : World) (K : PySem.W.Frag) (mg : Str → Option Value) (base : Heap) (A : Around) (outer : List Env) (s : Shared) (H : Hp) : Prop where
  frames : A.frames = some outer
  mod : Mod K mg base
  bs : ∀ b o, base.get? b = some o → s.heap.get? b = some o ∧ H b = none
  bsz : base.objs.size ≤ s.heap.objs.size
  funs : s.heap.FunFrames base outer
  frf : ∀ b ∈ frs outer, H b = none
  hok : HOk P w H s.heap
  bare : AllBare s.gens
/-- a call's end -/
def CE (outer : List Env) (P : Program) (w : World) (H : Hp) (s : Shared) (Q : VK) (u : Value) (s' : Shared) : Prop :=
  ∃ v H', s'.os = s.os ∧ AllBare s'.gens ∧ Un (frs outer) [] H H' s.heap s'.heap ∧ HOk P w H' s'.heap ∧ RelV v u ∧ Q v H'
def CR (CX : CXT) (outer : List Env) (P : Program) (w : World) (H : Hp) (s : Shared) (Q : VK) (E : XK) (r : Result) (s' : Shared) : Prop :=
  match r with
  | .ok (.ret u) => CE outer P w H s Q u s'
  | .ok _ => False
  | .error e => CX outer H s E e s'
structure FnOk (P : Program) (w : World) (K : PySem.W.Frag) (mg : Str → Option Value) (base : Heap) (CX : CXT) (k : Nat) (f : Addr) (fd : FuncData) (ps : List Str) (sp : Sp) : Prop where
  len : ∀ vs H Q E, sp vs H Q E → vs.length = ps.length
  run : ∀ (A : Around) (outer : List Env) (s : Shared) (H : Hp) (args : Args) (us : List Value) (vs : List V) (Q : VK) (E : XK), Room k A → Env0 P w K mg base A outer s H → BindsTo s fd args (ps.zip us) → Vals vs us → sp vs H Q E →
    codeAny (model P w) A (.call (.ref f) args) (CR CX outer P w H s Q E) s
theorem FnOk.mono {P : Program} {w : World} {K : PySem.W.Frag} {mg : Str → Option Value} {base : Heap} {CX : CXT} {j k : Nat} {f : Addr} {fd : FuncData} {ps : List Str} {sp : Sp} (F : FnOk P w K mg base CX j f fd ps sp) (h : j ≤ k) :
    FnOk P w K mg base CX k f fd ps sp := ⟨F.len, fun A outer s H args us vs Q E hr => F.run A outer s H args us vs Q E (hr.mono h)⟩
/-- a weaker promise -/
theorem FnOk.imp {P : Program} {w : World} {K : PySem.W.Frag} {mg : Str → Option Value} {base : Heap} {CX : CXT} {k : Nat} {f : Addr} {fd : FuncData} {ps : List Str} {sp sp' : Sp} (F : FnOk P w K mg base CX k f fd ps sp)
    (h : ∀ vs H Q E, sp' vs H Q E → sp vs H Q E) : FnOk P w K mg base CX k f fd ps sp' :=
  ⟨fun vs H Q E q => F.len vs H Q E (h _ _ _ _ q), fun A outer s H args us vs Q E hr he hb hv hs => F.run A outer s H args us vs Q E hr he hb hv (h _ _ _ _ hs)⟩

theorem Env0.make {P : Program} {w : World} {K : PySem.W.Frag} {mg : Str → Option Value} {base : Heap} {A : Around} {outer : List Env} {s : Shared} {H : Hp} (e : Env0 P w K mg base A outer s H) (C : Addr) (us : List Value) (kw : List (Str × Value)) :
    Env0 P w K mg base (A.under (.builtin "type.__call__" ⟨.ref C :: us, kw⟩)) outer s H := ⟨by first | exact e.frames | (simpa [Around.under, Code.envs, Code.isFrame, pushEnvs] using e.frames), e.mod, e.bs, e.bsz, e.funs, e.frf, e.hok, e.bare⟩
theorem Env0.in1 {P : Program} {w : World} {K : PySem.W.Frag} {mg : Str → Option Value} {base : Heap} {A : Around} {outer : List Env} {s : Shared} {H : Hp} (e : Env0 P w K mg base A outer s H) :
    Env0 P w K mg base A.in1 outer s H := ⟨e.frames, e.mod, e.bs, e.bsz, e.funs, e.frf, e.hok, e.bare⟩

section
variable {X : Cx} {pins : List (Addr × Obj)} {σ : St} {H : Hp} {s s' : Shared}
/-- from a body: what a callee wants -/
theorem Inv.env0 (I : Inv X pins σ H s) : Env0 X.prog X.w X.K X.mg X.base X.A X.stack s H :=
  ⟨I.ok.frames, I.ok.mod, I.bs, Nat.le_trans I.ok.bsz I.sz, I.stack, I.stkFree, I.hok, I.bare⟩
/-- behind a call -/
theorem Inv.after {Q : VK} {u : Value} (I : Inv X pins σ H s) (h : CE X.stack X.prog X.w H s Q u s') : EP X pins σ Q u s' := by
  obtain ⟨v, H', os, bare, un, hok, r, q⟩ := h
  obtain ⟨hh, g, d, t, os'⟩ := s'
  obtain rfl : os' = s.os := os
  exact ⟨v, H', I.call (h' := hh) (g' := g) (d' := d) (t' := t) (ch := []) un hok bare (fun b z => absurd z (by simp)), r, q⟩
end

/-! ### calls -/
/-- f(..): the written arguments, then the defaults dvs; E: what is wanted of an exception -/
def tCall (sp : Sp) (dvs : List V) (E : XK) (t : TA) : TE := fun σ H Q => t σ H fun vs H1 => sp (vs ++ dvs) H1 Q E
/-- o.m(..) of an instance of the class at C -/
def tMeth (C : Addr) (m : Str) (sp : Sp) (dvs : List V) (E : XK) (ta : TE) (t : TA) : TE := fun σ H Q => ta σ H fun x H1 => ∃ a dx fs, x = .ref a ∧ H1 a = some (.ins C dx fs) ∧ fs.lookup m = none ∧
  t σ H1 fun vs H2 => sp (x :: (vs ++ dvs)) H2 Q E
/-- C(..): a new instance and its dict, then __init__ -/
def tMake (C : Addr) (sp : Sp) (dvs : List V) (E : XK) (t : TA) : TE := fun σ H Q => t σ H fun vs H1 => ∀ x dx, H1 x = none → H1 dx = none → dx ≠ x →
  sp (.ref x :: (vs ++ dvs)) (upd (upd H1 dx (.own x)) x (.ins C dx [])) (fun v H2 => v = .non ∧ Q (.ref x) H2) E

/-- how the parameters are bound: us the positional arguments, kw the keywords' values by name, ds the defaults that fill up -/
def Binds (K : PySem.W.Frag) (fd : FuncData) (ps : List Str) (ds : List Value) : Prop :=
  ∀ (s : Shared) (us : List Value), K.In s.heap → (us ++ ds).length = ps.length → BindsTo s fd ⟨us, []⟩ (ps.zip (us ++ ds))
/-- every parameter is given -/
theorem Binds.all {K : PySem.W.Frag} {fd : FuncData} {ps : List Str} (h : ∀ us : List Value, us.length = ps.length → bindArgs fd ⟨us, []⟩ = pure (ps.zip us)) : Binds K fd ps [] := fun s us _ hl => by
  rw [List.append_nil] at hl ⊢
  exact .of_eq (h us hl)

/-- an exception of a callee reaches what this body wants of exceptions -/
def Passes (CX : CXT) (X : Cx) (E : XK) : Prop := ∀ (pins : List (Addr × Obj)) (σ : St) (H : Hp) (s : Shared) (e : Value) (s' : Shared), Inv X pins σ H s → CX X.stack H s E e s' → X.xe e s'

section
variable {X : Cx} {CX : CXT} {k : Nat} {f C : Addr} {fd : FuncData} {ps : List Str} {sp : Sp} {dvs : List V} {ds : List Value} {E : XK} {x m : Str} {p pos apos : Pos} {e o : Expr} {es : List Expr} {ta : TE} {t : TA}

/-- the callee runs -/
theorem run_fn {pins : List (Addr × Obj)} {σ : St} {H : Hp} {s : Shared} {Q : VK} {us : List Value} {vs : List V} (F : FnOk X.prog X.w X.K X.mg X.base CX k f fd ps sp) (hr : Room k X.A) (hb : Binds X.K fd ps ds) (hd : Vals dvs ds) (hx : Passes CX X E)
    (I : Inv X pins σ H s) (r : Vals vs us) (h : sp (vs ++ dvs) H Q E) : wpAny (model X.prog X.w) X.A (call (.ref f) us) (EP X pins σ Q) X.xe s := by
  have r2 : Vals (vs ++ dvs) (us ++ ds) := r.append hd
  have hl : (us ++ ds).length = ps.length := by rw [← r2.length]; exact F.len _ _ _ _ h
  refine wpAny_call (codeAny_mono (F.run X.A X.stack s H ⟨us, []⟩ (us ++ ds) (vs ++ dvs) Q E hr I.env0 (hb s us I.kIn hl) r2 h) fun r s' hq => ?_)
  cases r with
  | error e => exact hx pins σ H s e s' I hq
  | ok fl =>
    cases fl with
    | ret u => exact I.after hq
    | next => exact False.elim hq
    | brk => exact False.elim hq
    | cont => exact False.elim hq

theorem pe_call (F : FnOk X.prog X.w X.K X.mg X.base CX k f fd ps sp) (hr : Room k X.A) (hg : Gl X x) (hm : X.mg x = some (.ref f)) (hk : PySem.W.keepIn X.K (.ref f) = true) (hb : Binds X.K fd ps ds) (hd : Vals dvs ds) (hx : Passes CX X E)
    (ha : PA X (e :: es) t) (hdb : (x == ("__debug__" : Str)) = false := by decide) (he : starEach (e :: es) X.env = (false, eval e X.env) :: starEach es X.env := by rfl) (hpl : (backTo pos (starEach es X.env)).any (·.1) = false := by rfl) :
    PE X (.Call (.Name x p) (e :: es) [] pos) (tCall sp dvs E t) := by
  intro pins s σ H Q I h
  refine wpAny_Call_Name_kw (ld_glob I hg hm ?_ hdb)
  refine PySem.W.callWith_K (h₀ := X.base) I.ok.mod.kin hk (thn (ha pos pins s σ H _ I h) fun us s1 ⟨vs, H1, I1, r, q⟩ => ⟨I1.kIn, ?_⟩) he hpl
  exact run_fn F hr hb hd hx I1 r q
theorem pe_call0 (F : FnOk X.prog X.w X.K X.mg X.base CX k f fd ps sp) (hr : Room k X.A) (hg : Gl X x) (hm : X.mg x = some (.ref f)) (hk : PySem.W.keepIn X.K (.ref f) = true) (hb : Binds X.K fd ps ds) (hd : Vals dvs ds) (hx : Passes CX X E)
    (hdb : (x == ("__debug__" : Str)) = false := by decide) : PE X (.Call (.Name x p) [] [] pos) (tCall sp dvs E tNil) := by
  intro pins s σ H Q I h
  refine wpAny_Call_Name_kw (ld_glob I hg hm ?_ hdb)
  exact PySem.W.callWith_K0 I.kIn hk (run_fn (us := []) F hr hb hd hx I .nil h)

/-- o.m(e, ..) -/
theorem pe_meth {pl : Sem Bool} (he : PE X o ta) (c : Cls X.K C) (hm : Meth X.K C m f) (F : FnOk X.prog X.w X.K X.mg X.base CX k f fd ps sp) (hr : Room k X.A) (hb : Binds X.K fd ps ds) (hd : Vals dvs ds) (hx : Passes CX X E) (ha : PA X (e :: es) t)
    (hst : starEach (e :: es) X.env = (false, eval e X.env) :: starEach es X.env := by rfl) (hpl : (backTo pos (starEach es X.env)).any (·.1) = false := by rfl)
    (ht : eval (.Call (.Attribute o m apos) (e :: es) [] pos) X.env = (do
      let ov ← eval o X.env
      standAt apos.atName
      let (f, first) ← holding [ov] (getMethod ov m pl)
      callWith pos f first (backTo pos (starEach (e :: es) X.env)) (backToKw pos (keywordEach [] X.env))) := by rfl) :
    PE X (.Call (.Attribute o m apos) (e :: es) [] pos) (tMeth C m sp dvs E ta t) := by
  intro pins s σ H Q I h
  refine PySem.W.methodCall_KW (pl := pl) (thn (he pins s σ H _ I h) fun u s1 ⟨x, H1, I1, rx, a, dx, fs, ex, ea, l, q⟩ => ?_) ht
  subst ex
  obtain rfl : u = Value.ref a := rx
  refine getmeth_ok I1 ea c hm l ?_
  refine PySem.W.callWith_K (first := [.ref a]) (h₀ := X.base) I.ok.mod.kin hm.kp (thn (ha pos pins s1 σ H1 _ I1 q) fun us s2 ⟨vs, H2, I2, r, q2⟩ => ⟨I2.kIn, ?_⟩) hst hpl
  exact run_fn (us := .ref a :: us) (vs := .ref a :: vs) F hr hb hd hx I2 (.cons rfl r) q2
/-- o.m() -/
theorem pe_meth0 {pl : Sem Bool} (he : PE X o ta) (c : Cls X.K C) (hm : Meth X.K C m f) (F : FnOk X.prog X.w X.K X.mg X.base CX k f fd ps sp) (hr : Room k X.A) (hb : Binds X.K fd ps ds) (hd : Vals dvs ds) (hx : Passes CX X E)
    (ht : eval (.Call (.Attribute o m apos) [] [] pos) X.env = (do
      let ov ← eval o X.env
      standAt apos.atName
      let (f, first) ← holding [ov] (getMethod ov m pl)
      callWith pos f first (backTo pos (starEach [] X.env)) (backToKw pos (keywordEach [] X.env))) := by rfl) :
    PE X (.Call (.Attribute o m apos) [] [] pos) (tMeth C m sp dvs E ta tNil) := by
  intro pins s σ H Q I h
  refine PySem.W.methodCall_KW (pl := pl) (thn (he pins s σ H _ I h) fun u s1 ⟨x, H1, I1, rx, a, dx, fs, ex, ea, l, q⟩ => ?_) ht
  subst ex
  obtain rfl : u = Value.ref a := rx
  refine getmeth_ok I1 ea c hm l ?_
  exact PySem.W.callWith_K0 (first := [.ref a]) I1.kIn hm.kp (run_fn (us := [.ref a]) (vs := [.ref a]) F hr hb hd hx I1 (.cons rfl .nil) q)

/-- what a class must have to be made -/
structure Mk (K : PySem.W.Frag) (C f : Addr) : Prop where
  makes : PySem.W.makesIn K C = true
  init : PySem.W.findIn K (.ref C) "__init__" = some (some (.ref f))
  fn : PySem.W.isFn K (.ref f) = true
  kp : PySem.W.keepIn K (.ref C) = true

theorem run_make {pins : List (Addr × Obj)} {σ : St} {H : Hp} {s : Shared} {Q : VK} {us : List Value} {vs : List V} (M : Mk X.K C f) (F : FnOk X.prog X.w X.K X.mg X.base CX k f fd ps sp) (hr : Room (k + 1) X.A) (hb : Binds X.K fd ps ds) (hd : Vals dvs ds)
    (hx : Passes CX X E) (I : Inv X pins σ H s) (r : Vals vs us)
    (h : ∀ x dx, H x = none → H dx = none → dx ≠ x → sp (.ref x :: (vs ++ dvs)) (upd (upd H dx (.own x)) x (.ins C dx [])) (fun v H2 => v = .non ∧ Q (.ref x) H2) E) :
    wpAny (model X.prog X.w) X.A (call (.ref C) us) (EP X pins σ Q) X.xe s := by
  have hq := h (s.heap.objs.size + 1) s.heap.objs.size (I.hok.fresh (Nat.le_succ _)) (I.hok.fresh (Nat.le_refl _)) (Nat.ne_of_lt (Nat.lt_succ_self _))
  have I2 := Inv.made (C := C) I
  have r2 : Vals (V.ref (s.heap.objs.size + 1) :: (vs ++ dvs)) (Value.ref (s.heap.objs.size + 1) :: (us ++ ds)) := .cons rfl (r.append hd)
  have hl : (Value.ref (s.heap.objs.size + 1) :: us ++ ds).length = ps.length := by
    have e := r2.length
    rw [F.len _ _ _ _ hq] at e
    exact e.symm
  refine wpAny_call (make_map (f := f) I.kIn M.makes M.init (beq_iff_eq.mp M.fn) (codeAny_mono (F.run _ X.stack _ _ ⟨Value.ref (s.heap.objs.size + 1) :: us, []⟩ (Value.ref (s.heap.objs.size + 1) :: (us ++ ds)) _ _ E (hr.make C us [])
    (I2.env0.make C us []) (hb _ (Value.ref (s.heap.objs.size + 1) :: us) I2.kIn hl) r2 hq) fun r s' hq' => ?_))
  cases r with
  | error e => exact hx pins σ _ _ e s' I2 hq'
  | ok fl =>
    cases fl with
    | ret u =>
      obtain ⟨v, H', I3, rv, ev, q3⟩ := I2.after hq'
      subst ev
      exact ⟨rv, ⟨V.ref (s.heap.objs.size + 1), H', I3, rfl, q3⟩⟩
    | next => exact False.elim hq'
    | brk => exact False.elim hq'
    | cont => exact False.elim hq'
theorem pe_make (M : Mk X.K C f) (F : FnOk X.prog X.w X.K X.mg X.base CX k f fd ps sp) (hr : Room (k + 1) X.A) (hg : Gl X x) (hm : X.mg x = some (.ref C)) (hb : Binds X.K fd ps ds) (hd : Vals dvs ds) (hx : Passes CX X E)
    (ha : PA X (e :: es) t) (hdb : (x == ("__debug__" : Str)) = false := by decide) (he : starEach (e :: es) X.env = (false, eval e X.env) :: starEach es X.env := by rfl) (hpl : (backTo pos (starEach es X.env)).any (·.1) = false := by rfl) :
    PE X (.Call (.Name x p) (e :: es) [] pos) (tMake C sp dvs E t) := by
  intro pins s σ H Q I h
  refine wpAny_Call_Name_kw (ld_glob I hg hm ?_ hdb)
  refine PySem.W.callWith_K (h₀ := X.base) I.ok.mod.kin M.kp (thn (ha pos pins s σ H _ I h) fun us s1 ⟨vs, H1, I1, r, q⟩ => ⟨I1.kIn, ?_⟩) he hpl
  exact run_make M F hr hb hd hx I1 r q
theorem pe_make0 (M : Mk X.K C f) (F : FnOk X.prog X.w X.K X.mg X.base CX k f fd ps sp) (hr : Room (k + 1) X.A) (hg : Gl X x) (hm : X.mg x = some (.ref C)) (hb : Binds X.K fd ps ds) (hd : Vals dvs ds) (hx : Passes CX X E)
    (hdb : (x == ("__debug__" : Str)) = false := by decide) : PE X (.Call (.Name x p) [] [] pos) (tMake C sp dvs E tNil) := by
  intro pins s σ H Q I h
  refine wpAny_Call_Name_kw (ld_glob I hg hm ?_ hdb)
  exact PySem.W.callWith_K0 I.kIn M.kp (run_make (us := []) M F hr hb hd hx I .nil h)
end

/-! ### keywords -/
/-- the values of the keywords, from the left -/
def PK (X : Cx) (kws : List Keyword) (t : TA) : Prop :=
  ∀ (pos : Pos) (pins : List (Addr × Obj)) (s : Shared) (σ : St) (H : Hp) (Q : List V → Hp → Prop), Inv X pins σ H s → t σ H Q → wpAny (model X.prog X.w) X.A (evalAll ((backToKw pos (keywordEach kws X.env)).map (·.2))) (AP X pins σ Q) X.xe s
section
variable {X : Cx} {CX : CXT} {k : Nat} {f C : Addr} {fd : FuncData} {ps ks : List Str} {sp : Sp} {E : XK} {x m : Str} {p pos apos kpos : Pos} {e o : Expr} {es : List Expr} {kws : List Keyword} {te ta : TE} {t tk : TA} {nm : Option Str}
theorem pk_nil : PK X [] tNil := fun _ _ _ _ H Q I h => wpAny_evalAll_nil ⟨[], H, I, .nil, h⟩
theorem pk_cons (ha : PE X e te) (hr : PK X kws t) : PK X (⟨nm, e, kpos⟩ :: kws) (tCons te t) := by
  intro pos pins s σ H Q I h
  show wpAny _ _ (evalAll ((do let v ← eval e X.env; standAt pos; pure v) :: (backToKw pos (keywordEach kws X.env)).map (·.2))) _ _ s
  refine wpAny_evalAll_cons (wpAny_bind (thn (ha pins s σ H _ I h) fun u s1 ⟨x, H1, I1, r1, q1⟩ => wpAny_bind (wpAny_standAt (wpAny_pure ?_))))
  exact thn (hr pos pins s1 σ H1 _ I1 q1) fun us s2 ⟨xs, H2, I2, r2, q2⟩ => ⟨x :: xs, H2, I2, .cons r1 r2, q2⟩

/-- how a call with keywords binds: g puts the positional values us and the keywords' values ws (names ks) in the parameters' order, defaults among them -/
structure KBinds (K : PySem.W.Frag) (fd : FuncData) (ps ks : List Str) (g : List Value → List Value → List Value) (gV : List V → List V → List V) : Prop where
  to : ∀ (s : Shared) (us ws : List Value), K.In s.heap → (g us ws).length = ps.length → BindsTo s fd ⟨us, ks.zip ws⟩ (ps.zip (g us ws))
  rel : ∀ {vs : List V} {us : List Value} {zs : List V} {ws : List Value}, Vals vs us → Vals zs ws → Vals (gV vs zs) (g us ws)
def tCallK (sp : Sp) (gV : List V → List V → List V) (E : XK) (t tk : TA) : TE := fun σ H Q => t σ H fun vs H1 => tk σ H1 fun zs H2 => sp (gV vs zs) H2 Q E
variable {g : List Value → List Value → List Value} {gV : List V → List V → List V}
theorem run_fnk {pins : List (Addr × Obj)} {σ : St} {H : Hp} {s : Shared} {Q : VK} {us ws : List Value} {vs zs : List V} (F : FnOk X.prog X.w X.K X.mg X.base CX k f fd ps sp) (hr : Room k X.A) (hb : KBinds X.K fd ps ks g gV) (hx : Passes CX X E)
    (I : Inv X pins σ H s) (r : Vals vs us) (rz : Vals zs ws) (h : sp (gV vs zs) H Q E) : wpAny (model X.prog X.w) X.A (call (.ref f) us (ks.zip ws)) (EP X pins σ Q) X.xe s := by
  have r2 := hb.rel r rz
  have hl : (g us ws).length = ps.length := by rw [← r2.length]; exact F.len _ _ _ _ h
  refine wpAny_call (codeAny_mono (F.run X.A X.stack s H ⟨us, ks.zip ws⟩ (g us ws) (gV vs zs) Q E hr I.env0 (hb.to s us ws I.kIn hl) r2 h) fun r s' hq => ?_)
  cases r with
  | error e => exact hx pins σ H s e s' I hq
  | ok fl =>
    cases fl with
    | ret u => exact I.after hq
    | next => exact False.elim hq
    | brk => exact False.elim hq
    | cont => exact False.elim hq
/-- f(e, .., k = v, ..) -/
theorem pe_callK (F : FnOk X.prog X.w X.K X.mg X.base CX k f fd ps sp) (hr : Room k X.A) (hg : Gl X x) (hm : X.mg x = some (.ref f)) (hk : PySem.W.keepIn X.K (.ref f) = true) (hb : KBinds X.K fd ps ks g gV) (hx : Passes CX X E)
    (ha : PA X (e :: es) t) (hkw : PK X kws tk) (hall : (backToKw pos (keywordEach kws X.env)).all (·.1.isSome) = true := by rfl) (hks : (backToKw pos (keywordEach kws X.env)).filterMap (·.1) = ks := by rfl)
    (hdb : (x == ("__debug__" : Str)) = false := by decide) (he : starEach (e :: es) X.env = (false, eval e X.env) :: starEach es X.env := by rfl)
    (hpl : ((backTo pos (starEach (e :: es) X.env)).any (·.1) || (backToKw pos (keywordEach kws X.env)).any (·.1.isNone)) = false := by rfl) :
    PE X (.Call (.Name x p) (e :: es) kws pos) (tCallK sp gV E t tk) := by
  intro pins s σ H Q I h
  refine wpAny_Call_Name_kw (ld_glob I hg hm ?_ hdb)
  refine PySem.W.callWith_KW (h₀ := X.base) I.ok.mod.kin hk hall (thn (ha pos pins s σ H _ I h) fun us s1 ⟨vs, H1, I1, r, q⟩ => ?_) hpl he
  refine thn (hkw pos pins s1 σ H1 _ I1 q) fun ws s2 ⟨zs, H2, I2, rz, q2⟩ => ⟨I2.kIn, ?_⟩
  rw [hks]
  exact run_fnk F hr hb hx I2 r rz q2
end

/-! ### a def's body keeps its promise -/
/-- names: the parameters first -/
structure FnScope (N P : List Str) (sc : Scope) : Prop where
  kind : sc.kind = .function
  co : sc.isCoroutine = false
  gen : sc.isGenerator = false
  nd : N.Nodup
  pre : N.take P.length = P
  par : ∀ x ∈ P, sc.names.lookup x = some .local ∨ sc.names.lookup x = some .cell
  nofree : ∀ y ∈ sc.names, y.2 ≠ .free

theorem bindL_out {kindOf : Str → Option NameKind} {x : Str} : ∀ {binds : List (Str × Value)} {m : Str → Option Value}, (∀ v, (x, v) ∉ binds) → bindL kindOf binds m x = m x
  | [], _, _ => rfl
  | (n, v) :: r, m, h => by
    unfold bindL
    rw [bindL_out fun w hw => h w (List.mem_cons_of_mem _ hw)]
    split
    · have : x ≠ n := by rintro rfl; exact h v List.mem_cons_self
      simp [this]
    · rfl
theorem bindC_out {kindOf : Str → Option NameKind} {x : Str} : ∀ {binds : List (Str × Value)} {m : Str → Option Value}, (∀ v, (x, v) ∉ binds) → bindC kindOf binds m x = m x
  | [], _, _ => rfl
  | (n, v) :: r, m, h => by
    unfold bindC
    rw [bindC_out fun w hw => h w (List.mem_cons_of_mem _ hw)]
    split
    · rfl
    · have : x ≠ n := by rintro rfl; exact h v List.mem_cons_self
      simp [this]
theorem bindL_get {kindOf : Str → Option NameKind} {x : Str} {v : Value} : ∀ {P : List Str} {vs : List Value} {i : Nat} {m : Str → Option Value}, P.Nodup → P[i]? = some x → vs[i]? = some v → kindOf x = some .local →
    bindL kindOf (P.zip vs) m x = some v
  | [], _, _, _, _, h, _, _ => by simp at h
  | _ :: _, [], _, _, _, _, h, _ => by simp at h
  | p :: P, w :: vs, 0, m, nd, h1, h2, hk => by
    simp at h1 h2; subst h1; subst h2
    show bindL kindOf ((p, w) :: P.zip vs) m p = _
    unfold bindL
    rw [bindL_out fun v hv => (List.nodup_cons.mp nd).1 (List.of_mem_zip hv).1, if_pos hk]
    simp
  | p :: P, w :: vs, i + 1, m, nd, h1, h2, hk => by
    show bindL kindOf ((p, w) :: P.zip vs) m x = _
    unfold bindL
    exact bindL_get (i := i) (List.nodup_cons.mp nd).2 (by simpa using h1) (by simpa using h2) hk
theorem bindC_get {kindOf : Str → Option NameKind} {x : Str} {v : Value} : ∀ {P : List Str} {vs : List Value} {i : Nat} {m : Str → Option Value}, P.Nodup → P[i]? = some x → vs[i]? = some v → kindOf x ≠ some .local →
    bindC kindOf (P.zip vs) m x = some v
  | [], _, _, _, _, h, _, _ => by simp at h
  | _ :: _, [], _, _, _, _, h, _ => by simp at h
  | p :: P, w :: vs, 0, m, nd, h1, h2, hk => by
    simp at h1 h2; subst h1; subst h2
    show bindC kindOf ((p, w) :: P.zip vs) m p = _
    unfold bindC
    rw [bindC_out fun v hv => (List.nodup_cons.mp nd).1 (List.of_mem_zip hv).1, if_neg hk]
    simp
  | p :: P, w :: vs, i + 1, m, nd, h1, h2, hk => by
    show bindC kindOf ((p, w) :: P.zip vs) m x = _
    unfold bindC
    exact bindC_get (i := i) (List.nodup_cons.mp nd).2 (by simpa using h1) (by simpa using h2) hk

/-- the names' values at the entry -/
def start (N : List Str) (vs : List V) : St := vs.map some ++ List.replicate (N.length - vs.length) none

/-- the context of a def's body, at its entry; an exception leaves the frame, then lies as CX says -/
def cxOf (CX : CXT) (P : Program) (w : World) (K : PySem.W.Frag) (mg : Str → Option Value) (base : Heap) (N : List Str) (qual : Str) (scope : Scope) (f : Addr) (cd : Value) (A : Around) (outer : List Env) (s : Shared) (H : Hp) (E : XK) : Cx where
  prog := P
  w := w
  K := K
  mg := mg
  base := base
  A := A.deeper (envOfC qual scope s.heap.objs.size f cd)
  N := N
  s_0 := s
  H_0 := H
  env := envOfC qual scope s.heap.objs.size f cd
  outer := outer
  stack := envOfC qual scope s.heap.objs.size f cd :: outer
  ex := []
  calm := true
  fn := fun _ => true
  pn := []
  xe := fun e s' => wpAny (model P w) (A.deeper (envOfC qual scope s.heap.objs.size f cd)) (leaving (envOfC qual scope s.heap.objs.size f cd) e) (fun _ s'' => CX outer H s E e s'') (fun e' s'' => CX outer H s E e' s'') s'

theorem cell_has {sc : Scope} {n : Nat} {x : Str} (h : sc.names.lookup x = some .cell) : ∃ c, (cellsFrom n sc.names []).lookup x = some c := by
  have q := PySem.W.cellsFrom_some sc.names n [] (.inl h)
  exact Option.isSome_iff_exists.mp q

theorem inv_start {CX : CXT} {P : Program} {w : World} {K : PySem.W.Frag} {mg : Str → Option Value} {base : Heap} {N ps : List Str} {qual : Str} {scope : Scope} {f : Addr} {cd : Value} {A : Around} {outer : List Env} {s s1 : Shared} {H : Hp} {E : XK} {us : List Value} {vs : List V}
    (S : FnScope N ps scope) (hd : A.handled = none) (e0 : Env0 P w K mg base A outer s H) (hl : vs.length = ps.length) (r : Vals vs us)
    (x : InCallC s s.heap.objs.size (bindL (envOfC qual scope s.heap.objs.size f cd).kindOf (ps.zip us) fun _ => none) (cellsFrom (s.heap.objs.size + 1) scope.names []) (bindC (envOfC qual scope s.heap.objs.size f cd).kindOf (ps.zip us) fun _ => none) s1) :
    Inv (cxOf CX P w K mg base N qual scope f cd A outer s H E) [] (start N vs) H s1 := by
  have hpl : ps.length ≤ N.length := by have := congrArg List.length S.pre; rw [List.length_take] at this; omega
  obtain ⟨h1, tk, rfl, hk⟩ := x.done
  have noA : ∀ b : Addr, b ∉ (cxOf CX P w K mg base N qual scope f cd A outer s H E).ex := fun b z => absurd (show b ∈ ([] : List Addr) from z) (by simp)
  refine ⟨⟨e0.mod, S.kind, rfl, rfl, Nat.le_refl _, fun y z c h1 h2 => ?_, fun y hy => ?_, fun y c _ h => ?_, fun _ => hd, Around.frames_deeper e0.frames, .inr ⟨rfl, rfl⟩, fun b z => absurd z (noA b), e0.bs, e0.bsz, fun b _ _ => noA b, fun b z => absurd z (noA b), e0.funs, e0.frf⟩,
    rfl, e0.bare, Un.kept hk, ⟨_, x.toInCall.ns, fun i y v h1 h2 h3 => ?_⟩, fun y c h => ⟨_, x.cell y c h⟩, e0.hok.fresh (Nat.le_refl _), fun y c h => ?_, fun p hp => absurd (show p ∈ ([] : List (Addr × Obj)) from hp) (by simp), e0.hok.kept hk, ?_⟩
  · exact name_of_addr x.apart (PySem.mem_of_lookup h1) (PySem.mem_of_lookup h2)
  · have hy : scope.names.lookup y = some .cell ∨ scope.names.lookup y = some .free := hy
    rcases hy with hy | hy
    · exact cell_has hy
    · exact absurd rfl (S.nofree _ (PySem.mem_of_lookup hy))
  · exact Nat.le_of_lt (x.above y c (PySem.mem_of_lookup h))
  · have hi : i < vs.length := by
      unfold start at h2
      by_cases hi : i < vs.length
      · exact hi
      · rw [List.getElem?_append_right (by simpa using hi)] at h2
        rw [List.getElem?_replicate] at h2
        split at h2 <;> cases h2
    have ha : vs[i]? = some v := by
      unfold start at h2
      rw [List.getElem?_append_left (by simpa using hi), List.getElem?_map] at h2
      cases e : vs[i]? with
      | none => rw [e] at h2; cases h2
      | some a => rw [e] at h2; cases h2; rfl
    obtain ⟨u, hu, rv⟩ := r.get ha
    have hp : ps[i]? = some y := by
      rw [← S.pre, List.getElem?_take_of_lt (by omega)]; exact h1
    have ndP : ps.Nodup := by rw [← S.pre]; exact S.nd.sublist (List.take_sublist _ _)
    refine ⟨u, rv, ?_⟩
    rcases S.par y (List.mem_of_getElem? hp) with k | k
    · exact .inl ⟨k, bindL_get ndP hp hu k⟩
    · obtain ⟨c, e⟩ := cell_has (n := s.heap.objs.size + 1) k
      refine .inr ⟨.inl k, c, e, ?_⟩
      have q := x.cell y c e
      rw [bindC_get ndP hp hu (by show scope.names.lookup y ≠ _; rw [k]; decide)] at q
      exact q
  · exact e0.hok.fresh (Nat.le_of_lt (x.above y c (PySem.mem_of_lookup h)))
  · unfold start
    show _ = N.length
    rw [List.length_append, List.length_map, List.length_replicate]
    omega

/-- THE RULE: a def (or a method) of the text, by its body. The body's reading t is chosen for each entry; it is run at the parameters' values -/
theorem fn_of {CX : CXT} {P : Program} {w : World} {K : PySem.W.Frag} {mg : Str → Option Value} {base : Heap} {k : Nat} {f : Addr} {name qual : Str} {params : Arguments} {body : List Stmt} {scope : Scope} {dV kV doc pm cdv ct oc : Value} {an od : Option Addr}
    {osl : Array (Option Value)} {N ps : List Str} {sp : Sp} (lk : K.lookup f = some ⟨oc, od, .func (PySem.W.fnOf name qual params body scope dV kV doc pm an cdv ct), osl⟩) (hcd : PySem.W.codeIn K cdv qual = true) (S : FnScope N ps scope)
    (len : ∀ vs H Q E, sp vs H Q E → vs.length = ps.length)
    (hbody : ∀ (A : Around) (outer : List Env) (s : Shared) (H : Hp) (vs : List V) (Q : VK) (E : XK), Room k (A.deeper (envOfC qual scope s.heap.objs.size f cdv)) → sp vs H Q E →
      ∃ t, PSs (cxOf CX P w K mg base N qual scope f cdv A outer s H E) body t ∧ t { nx := fun _ H' => Q .non H', rt := Q } (start N vs) H) :
    FnOk P w K mg base CX (k + 1) f (PySem.W.fnOf name qual params body scope dV kV doc pm an cdv ct) ps sp := by
  refine ⟨len, fun A outer s H args us vs Q E hr e0 hb r hsp => ?_⟩
  have hl := len _ _ _ _ hsp
  have KX : K.In s.heap := e0.mod.kin.keeps fun b o e => (e0.bs b o e).1
  have lim : s.heap.NoLimit := e0.mod.nolimit.keeps fun b o e => (e0.bs b o e).1
  have hkind : ∀ y ∈ ps.zip us, scope.names.lookup y.1 = some .local ∨ (scope.names.lookup y.1 = some .cell ∧ ((cellsFrom (s.heap.objs.size + 1) scope.names []).lookup y.1).isSome = true) := fun ⟨n, v⟩ hy => by
    rcases S.par n (List.of_mem_zip hy).1 with q | q
    · exact .inl q
    · exact .inr ⟨q, PySem.W.cellsFrom_some _ _ _ (.inl q)⟩
  refine codeAny_call_function hr.depth (KX _ _ lk) rfl S.co S.gen rfl (PySem.W.codeRec_of KX hcd) (hb _ _ _ _ ?_)
  refine wpAny_newFunctionEnv_cells S.kind hkind fun env he s1 x => ?_
  subst he
  refine ⟨lim.keeps x.toInCall.keep, codeAny_func ?_⟩
  obtain ⟨t, ht, hq⟩ := hbody A outer s H vs Q E (hr.deeper _) hsp
  have I : Inv (cxOf CX P w K mg base N qual scope f cdv A outer s H E) [] (start N vs) H s1 := inv_start S hr.hd e0 hl r x
  refine wpAny_mono (ht [] s1 (start N vs) H _ I hq) (fun fl s' hs => ?_) fun e s' hs => hs
  have fin : ∀ {σ' : St} {H' : Hp} {v : V} {u : Value}, Inv (cxOf CX P w K mg base N qual scope f cdv A outer s H E) [] σ' H' s' → RelV v u → Q v H' → CE outer P w H s Q u s' :=
    fun {σ' H' v u} J rv q => ⟨v, H', J.os, J.bare, J.base, J.hok, rv, q⟩
  cases fl with
  | ret u =>
    obtain ⟨v, σ', H', J, rv, q⟩ := hs
    exact fin J rv q
  | next =>
    obtain ⟨σ', H', J, q⟩ := hs
    exact fin (v := V.non) (u := Value.none) J rfl q
  | brk =>
    obtain ⟨_, _, _, q⟩ := hs
    exact False.elim q
  | cont =>
    obtain ⟨_, _, _, q⟩ := hs
    exact False.elim q
end L2

namespace L2
open PySem PySem.Spec PyProof.Rows
section
variable {X : Cx} {x : Str} {p pos : Pos} {e : Expr} {es : List Expr} {t : TA} {id T : String} {r : List V → Hp → VK → Prop}

def tCB (r : List V → Hp → VK → Prop) (t : TA) : TE := fun σ H Q => t σ H fun vs H1 => r vs H1 Q
/-- f(e, ..), f a built-in function -/
theorem pe_callB (hc : CallR X (.builtin id) r) (hg : Gl X x) (hm : X.mg x = none) (hv : bootBuiltins x = some (.builtin id)) (ha : PA X (e :: es) t) (hn : x ≠ "__name__" := by decide) (hdb : (x == ("__debug__" : Str)) = false := by decide)
    (he : starEach (e :: es) X.env = (false, eval e X.env) :: starEach es X.env := by rfl) (hpl : (backTo pos (starEach es X.env)).any (·.1) = false := by rfl) : PE X (.Call (.Name x p) (e :: es) [] pos) (tCB r t) := by
  intro pins s σ H Q I h
  refine wpAny_Call_Name_kw (ld_blt I hg hm hv ?_ hn hdb)
  exact PyProof.Rows.callWith_builtin1 (thn (ha pos pins s σ H _ I h) fun us s1 ⟨vs, H1, I1, r1, q1⟩ => hc pins s1 σ H1 vs us Q I1 r1 q1) he hpl
/-- T(e, ..), T a built-in type -/
theorem pe_callTy (hc : CallR X (.type T) r) (hg : Gl X x) (hm : X.mg x = none) (hv : bootBuiltins x = some (.type T)) (ha : PA X (e :: es) t) (hn : x ≠ "__name__" := by decide) (hdb : (x == ("__debug__" : Str)) = false := by decide)
    (he : starEach (e :: es) X.env = (false, eval e X.env) :: starEach es X.env := by rfl) (hpl : (backTo pos (starEach es X.env)).any (·.1) = false := by rfl) : PE X (.Call (.Name x p) (e :: es) [] pos) (tCB r t) := by
  intro pins s σ H Q I h
  refine wpAny_Call_Name_kw (ld_blt I hg hm hv ?_ hn hdb)
  exact PyProof.Rows.callWith_type1 (thn (ha pos pins s σ H _ I h) fun us s1 ⟨vs, H1, I1, r1, q1⟩ => hc pins s1 σ H1 vs us Q I1 r1 q1) he hpl
/-- T() -/
theorem pe_callTy0 (hc : CallR X (.type T) r) (hg : Gl X x) (hm : X.mg x = none) (hv : bootBuiltins x = some (.type T)) (hn : x ≠ "__name__" := by decide) (hdb : (x == ("__debug__" : Str)) = false := by decide) :
    PE X (.Call (.Name x p) [] [] pos) (tCB r tNil) := by
  intro pins s σ H Q I h
  refine wpAny_Call_Name_kw (ld_blt I hg hm hv ?_ hn hdb)
  exact PyProof.Rows.callWith_type0 (hc pins s σ H [] [] Q I .nil h)
end
end L2

namespace HT
open PySem PyProof.Rows

/-- t < u of tuples of ints -/
def lexLt : List Int → List Int → Bool
  | [], [] => false
  | [], _ :: _ => true
  | _ :: _, [] => false
  | x :: xs, y :: ys => if x = y then lexLt xs ys else decide (x < y)
theorem lexLt_cons (x y : Int) (xs ys : List Int) : lexLt (x :: xs) (y :: ys) = if x = y then lexLt xs ys else decide (x < y) := rfl
theorem lexLt_nil_nil : lexLt [] [] = false := rfl
theorem lexLt_nil_cons (y : Int) (ys : List Int) : lexLt [] (y :: ys) = true := rfl
theorem lexLt_cons_nil (x : Int) (xs : List Int) : lexLt (x :: xs) [] = false := rfl

theorem eqAt_int (A : Around) (s : Shared) (a : Int) (t : Tok) (c : Int) (u : Tok) : ∃ e, SeqAt.EqAt A s (.int a t) (.int c u) e ∧ (e = true ↔ a = c) :=
  ⟨(a == c), SeqAt.EqAt.int_int a t c u, by simp⟩
theorem rcLt_int (A : Around) (s : Shared) (a : Int) (t : Tok) (c : Int) (u : Tok) (prog : Program) (w : World) (E : Value → Shared → Prop) (Q : Value → Shared → Prop) (h : Q (.bool (decide (a < c))) s) :
    wpAny (model prog w) A (richCompare .Lt (.int a t) (.int c u)) Q E s :=
  (PyProof.Rows.lt_int h : wpAny (model prog w) A (compareOp .Lt (.int a t) (.int c u)) Q E s)

section
open PySem.SeqAt
open PySem.AutoSeq1 (wpAny_loadPart')
open PySem.MeetsSeq PySem.MeetsSeq2 PySem.MeetsSeq3

theorem tuple_lt_ints (l b : Addr) (items items2 : Array Value) (n n2 : Nat) (dd dd2 : Option Addr) (sl sl2 : Array (Option Value)) (ns ms : List Int) (hi : IntsAre items.toList ns) (hj : IntsAre items2.toList ms) :
    Meets (Builtin.«tuple.__lt__» ⟨[.ref l, .ref b], []⟩)
      (fun _ R s => s.heap.get? l = some { cls := .type "tuple", dict := dd, data := .seq items n, slots := sl } ∧ s.heap.get? b = some { cls := .type "tuple", dict := dd2, data := .seq items2 n2, slots := sl2 } ∧
        R (.ok (.ret (.bool (lexLt ns ms)))) s) :=
  .of_wp fun prog w A R s h => by
    obtain ⟨hp, g, d, tk, os⟩ := s; obtain ⟨hl, hb, h⟩ := h
    have f2 := AutoSeq1.sub_tuple_tuple
    have z1 : items.size = ns.length := by rw [← hi.length]; simp
    have z2 : items2.size = ms.length := by rw [← hj.length]; simp
    wp_walk using wpAny_loadPart' hl, wpAny_loadPart' hb, wpAny_forIn_list _ (fun rest b s' => b.1 = none ∧ s' = ⟨hp, g, d, tk, os⟩ ∧ ∃ (vs ws : List Value) (ns' ms' : List Int), rest = vs.zip ws ∧
      IntsAre vs ns' ∧ IntsAre ws ms' ∧ ns'.length + items2.size = ms'.length + items.size ∧ R (.ok (.ret (.bool (lexLt ns' ms')))) ⟨hp, g, d, tk, os⟩) _
    case turn =>
      rintro ⟨y, x⟩ rest b s' ⟨hb', rfl, vs, ws, ns', ms', hz, hvi, hwi, hlen, hR⟩
      cases hvi with
      | nil => rw [List.zip_nil_left] at hz; cases hz
      | cons a t hvi' =>
        cases hwi with
        | nil => rw [List.zip_nil_right] at hz; cases hz
        | cons c u hwi' =>
          rw [List.zip_cons_cons] at hz
          injection hz with hyx hrest
          injection hyx with hy hx
          subst hy hx
          rw [lexLt_cons] at hR
          simp only [List.length_cons] at hlen
          obtain ⟨e, he, hiff⟩ := eqAt_int A.in1 ⟨hp, g, d, tk, os⟩ a t c u
          refine wpAny_bind (he prog w _ _ ?_)
          cases e with
          | true =>
            rw [if_pos (hiff.mp rfl)] at hR
            wp_walk
            exact ⟨rfl, rfl, _, _, _, _, hrest, hvi', hwi', by omega, hR⟩
          | false =>
            rw [if_neg (fun q => absurd (hiff.mpr q) Bool.false_ne_true)] at hR
            have hri := rcLt_int A.in1 ⟨hp, g, d, tk, os⟩ a t c u prog w
            wp_walk using hri
            exact ⟨_, rfl, by simpa using hR⟩
    case fin =>
      rintro ⟨b1, b2⟩ s' ⟨hb', rfl, vs, ws, ns', ms', hz, hvi, hwi, hlen, hR⟩
      simp only at hb'
      subst hb'
      have hv : lexLt ns' ms' = decide (items.size < items2.size) := by
        cases hvi with
        | nil =>
          cases hwi with
          | nil =>
            simp only [List.length_nil] at hlen
            rw [lexLt_nil_nil]
            exact (decide_eq_false (by omega)).symm
          | cons c u hw =>
            simp only [List.length_nil, List.length_cons] at hlen
            rw [lexLt_nil_cons]
            exact (decide_eq_true (by omega)).symm
        | cons a t hv =>
          cases hwi with
          | nil =>
            simp only [List.length_nil, List.length_cons] at hlen
            rw [lexLt_cons_nil]
            exact (decide_eq_false (by omega)).symm
          | cons c u hw =>
            rw [List.zip_cons_cons] at hz
            cases hz
      rw [hv] at hR
      wp_walk
      exact ⟨_, rfl, by simpa [Builtin.Tuple.tupleCompareSizes] using hR⟩
    case h =>
      exact ⟨rfl, rfl, items.toList, items2.toList, ns, ms, rfl, hi, hj, by omega, h⟩
end

section
variable {prog : Program} {w : World} {A : Around} {E : Value → Shared → Prop} {s : Shared}

theorem lt_tupInts {l b : Addr} {items items2 : Array Value} {ns ms : List Int} {Q : Value → Shared → Prop} (hl : IsTup s.heap l items) (hb : IsTup s.heap b items2) (hi : IntsAre items.toList ns) (hj : IntsAre items2.toList ms)
    (hu : A.units < cLine) (h : Q (.bool (lexLt ns ms)) s) : wpAny (model prog w) A (compareOp .Lt (.ref l) (.ref b)) Q E s := by
  obtain ⟨⟨cls, dd, data, sl⟩, ho, hc, n, hd⟩ := id hl
  obtain ⟨⟨cls2, dd2, data2, sl2⟩, ho2, hc2, n2, hd2⟩ := id hb
  simp only at hc hd hc2 hd2
  subst hc hd hc2 hd2
  exact richCompare_meets_room (op := .Lt) ⟨_, ho, rfl⟩ ⟨_, ho2, rfl⟩ PySem.F.slot_tuple_lt PySem.F.entry_tuple_lt (PySem.F.args_tuple_lt_2 _ _) (tuple_lt_ints l b items items2 n n2 dd dd2 sl sl2 ns ms hi hj)
    ⟨ho, ho2, show Value.bool (lexLt ns ms) ≠ Value.notImplemented ∧ Q (.bool (lexLt ns ms)) s from ⟨(fun x => nomatch x), h⟩⟩ hu

/-- t + u, t not empty -/
theorem cat_tup {t b : Addr} {vs ws : List Value} {Q : Value → Shared → Prop} (ht : IsTup s.heap t vs.toArray) (hb : IsTup s.heap b ws.toArray) (hv : vs ≠ [])
    (h1 : ws = [] → Q (.ref t) s) (h2 : ws ≠ [] → Q (.ref s.heap.objs.size) { s with heap := s.heap.push { cls := .type "tuple", data := .seq (vs ++ ws).toArray } })
    (hsz : vs.length + ws.length ≤ sizeLine) : wpAny (model prog w) A (binaryOp .Add (.ref t) (.ref b)) Q E s := by
  obtain ⟨⟨cls, dd, data, sl⟩, ho, hc, n, hd⟩ := id ht
  obtain ⟨⟨cls2, dd2, data2, sl2⟩, ho2, hc2, n2, hd2⟩ := id hb
  simp only at hc hd hc2 hd2
  subst hc hd hc2 hd2
  have e : vs.toArray ++ ws.toArray = (vs ++ ws).toArray := by simp
  by_cases hw : ws = []
  · exact concat_meets ⟨_, ho, rfl⟩ ⟨_, ho2, rfl⟩ noFill_tuple_add seq_tuple_add PySem.F.slot_tuple_add PySem.F.entry_tuple_add (PySem.F.args_tuple_add_2 _ _)
      (tuple_addW1 t b vs.toArray ws.toArray n n2 dd dd2 sl sl2 (by simpa using hv) (by simp [hw])) ⟨ho, ho2, h1 hw⟩
  · refine concat_meets ⟨_, ho, rfl⟩ ⟨_, ho2, rfl⟩ noFill_tuple_add seq_tuple_add PySem.F.slot_tuple_add PySem.F.entry_tuple_add (PySem.F.args_tuple_add_2 _ _)
      (tuple_addW2 t b vs.toArray ws.toArray n n2 dd dd2 sl sl2 (by simpa using hv) (by simpa using hw) (by rw [List.size_toArray, List.size_toArray]; exact hsz)) ⟨ho, ho2, ?_⟩
    rw [e]
    exact h2 hw

/-! ### t[a:b], not the whole -/
/-- a slice's bound as a place among n (d where it is left out) -/
def sIx (n d : Nat) : Option Int → Nat
  | none => d
  | some v => if v < 0 then (v + (n : Int)).toNat else min v.toNat n
theorem sIx_none (n d : Nat) : sIx n d none = d := rfl
theorem sIx_nat (n d k : Nat) : sIx n d (some (k : Int)) = min k n := by
  show (if (k : Int) < 0 then ((k : Int) + (n : Int)).toNat else min (k : Int).toNat n) = min k n
  rw [if_neg (by omega), Int.toNat_natCast]
theorem sIx_le (n d : Nat) (hd : d ≤ n) (o : Option Int) : sIx n d o ≤ n := by
  cases o with
  | none => exact hd
  | some v =>
    show (if v < 0 then (v + (n : Int)).toNat else min v.toNat n) ≤ n
    by_cases hv : v < 0
    · rw [if_pos hv]; omega
    · rw [if_neg hv]; exact Nat.min_le_right _ _
theorem clip_eq (v : Int) (n d : Nat) : (if v < 0 then max (v + (n : Int)) 0 else min v (n : Int)) = ((sIx n d (some v) : Nat) : Int) := by
  show (if v < 0 then max (v + (n : Int)) 0 else min v (n : Int)) = (((if v < 0 then (v + (n : Int)).toNat else min v.toNat n) : Nat) : Int)
  by_cases hv : v < 0
  · simp only [if_pos hv]; omega
  · simp only [if_neg hv]; omega
theorem adjust_gen (lo hi : Option Int) (n : Nat) : Builtin.Slice.sliceAdjust lo hi 1 (n : Int) = (((sIx n 0 lo : Nat) : Int), ((sIx n n hi : Nat) : Int)) := by
  have h1 : ¬ ((1 : Int) < 0) := by omega
  unfold Builtin.Slice.sliceAdjust
  simp only [h1, if_false]
  refine Prod.ext ?_ ?_
  · cases lo with
    | none => rfl
    | some v => exact clip_eq v n 0
  · cases hi with
    | none => rfl
    | some v => exact clip_eq v n n
theorem places_gen (i j : Nat) : Builtin.Slice.slicePlaces (i : Int) (j : Int) 1 = j - i := by
  unfold Builtin.Slice.slicePlaces
  have h1 : (1 : Int) > 0 := by omega
  simp only [h1, if_true, Int.ediv_one]
  split <;> omega
theorem slicePart_ {v : Value} {o : Option Int} {Q : Option Int → Shared → Prop} (p : IsPart v o) (h : Q o s) : wpAny (model prog w) A (Builtin.Slice.slicePartIndex v) Q E s := by
  cases p with
  | none => exact slicePart_none h
  | int i t => exact slicePart_int h
theorem sliceApplied_gen {sl : Addr} {vl vu : Value} {lo hi : Option Int} {n : Nat} {Q : Int × Int × Nat → Shared → Prop} (hs : s.heap.IsSliceOf sl vl vu .none) (pl : IsPart vl lo) (pu : IsPart vu hi)
    (h : Q (((sIx n 0 lo : Nat) : Int), 1, sIx n n hi - sIx n 0 lo) s) : wpAny (model prog w) A (Builtin.Slice.sliceApplied (.ref sl) (pure (n : Int))) Q E s := by
  obtain ⟨os, hos, hcs, hds⟩ := id hs
  unfold Builtin.Slice.sliceApplied Builtin.Slice.sliceFields
  refine wpAny_bind (wpAny_bind (wpAny_field hos hds (x := vl) rfl (wpAny_bind (wpAny_field hos hds (x := vu) rfl (wpAny_bind (wpAny_field hos hds (x := .none) rfl (wpAny_pure ?_)))))))
  refine wpAny_bind (slicePart_none ?_)
  show wpAny _ _ (if ((1 : Int) == 0) = true then _ else _) _ _ s
  rw [if_neg (by decide)]
  refine wpAny_bind (slicePart_ pl (wpAny_bind (slicePart_ pu (wpAny_bind (wpAny_pure ?_)))))
  show wpAny _ _ (match Builtin.Slice.sliceAdjust lo hi 1 (n : Int) with | (lo, hi) => pure (lo, (1 : Int), Builtin.Slice.slicePlaces lo hi 1)) _ _ s
  rw [adjust_gen lo hi n]
  show wpAny _ _ (pure (((sIx n 0 lo : Nat) : Int), (1 : Int), Builtin.Slice.slicePlaces ((sIx n 0 lo : Nat) : Int) ((sIx n n hi : Nat) : Int) 1)) _ _ s
  rw [places_gen]
  exact wpAny_pure h
theorem pick_gen (xs : Array Value) (i k : Nat) : ((List.range k).filterMap fun (m : Nat) => xs[((i : Int) + (m : Int) * 1).toNat]?).toArray = ((xs.toList.drop i).take k).toArray := by
  have e : (fun (m : Nat) => xs[((i : Int) + (m : Int) * 1).toNat]?) = fun m => xs[i + m]? := by
    funext m
    have : ((i : Int) + (m : Int) * 1).toNat = i + m := by omega
    rw [this]
  rw [e]
  have := pick_run xs i k
  rw [List.filterMap_map] at this
  have e2 : ((fun x => xs[x]?) ∘ fun x => i + x) = fun m => xs[i + m]? := rfl
  rw [e2] at this
  rw [this]

theorem getItem_tuple_cut {t sl : Addr} {items : Array Value} {vl vu : Value} {lo hi : Option Int} {Q : Value → Shared → Prop} (ht : IsTup s.heap t items) (hs : s.heap.IsSliceOf sl vl vu .none) (pl : IsPart vl lo) (pu : IsPart vu hi)
    (hw : ¬ (sIx items.size 0 lo = 0 ∧ sIx items.size items.size hi = items.size))
    (h : Q (.ref s.heap.objs.size) { s with heap := s.heap.push { cls := .type "tuple", data := .seq ((items.toList.drop (sIx items.size 0 lo)).take (sIx items.size items.size hi - sIx items.size 0 lo)).toArray } })
    (hsz : items.size ≤ sizeLine) : wpAny (model prog w) A (getItem (.ref t) (.ref sl)) Q E s := by
  have htake : sizeOk (.seq ((items.toList.drop (sIx items.size 0 lo)).take (sIx items.size items.size hi - sIx items.size 0 lo)).toArray) := by
    show ((items.toList.drop (sIx items.size 0 lo)).take (sIx items.size items.size hi - sIx items.size 0 lo)).toArray.size ≤ sizeLine
    rw [List.size_toArray, List.length_take, List.length_drop, Array.length_toList]
    omega
  have hj : sIx items.size items.size hi ≤ items.size := sIx_le _ _ (Nat.le_refl _) hi
  obtain ⟨os, hos, hcs, hds⟩ := id hs
  have hTs : s.TypeIs (.ref sl) "slice" := ⟨os, hos, hcs⟩
  unfold getItem
  try with_reducible refine wpAny_holding ?_
  first | refine wpAny_bind (wpAny_pure ?_) | skip
  refine wpAny_bind (wpAny_sequenceKey ht.typeIs (by decide) ?_)
  refine wpAny_bind (wpAny_callSpecial?_slot (name := Str.ofString "__getitem__") ht.typeIs PyProof.Rows.slot_tuple_getitem
    (wpAny_call_entry PyProof.Rows.slot_tuple_getitem ht.typeIs entry_tuple_getitem ?_ (args_tuple_getitem _ _)))
  show wpAny _ _ (Builtin.Tuple.tupleItemsOf (.ref t) >>= _) _ _ s
  refine wpAny_bind (tupleItemsOf_ ht ?_)
  refine wpAny_bind (wpAny_typeOf hTs ?_)
  rw [if_pos (by decide)]
  refine wpAny_bind (sliceApplied_gen hs pl pu ?_)
  have hno : ¬ ((((sIx items.size 0 lo : Nat) : Int) == 0 && (1 : Int) == 1 && (sIx items.size items.size hi - sIx items.size 0 lo) == items.size) = true) := by
    intro q
    rw [Bool.and_eq_true, Bool.and_eq_true] at q
    have q1 : ((sIx items.size 0 lo : Nat) : Int) = 0 := eq_of_beq q.1.1
    have q2 : sIx items.size items.size hi - sIx items.size 0 lo = items.size := eq_of_beq q.2
    exact hw ⟨by omega, by omega⟩
  show wpAny _ _ (if (((sIx items.size 0 lo : Nat) : Int) == 0 && (1 : Int) == 1 && (sIx items.size items.size hi - sIx items.size 0 lo) == items.size) = true then _ else _) _ _ s
  rw [if_neg hno, pick_gen]
  first
    | exact wpAny_bind (m := Builtin.Tuple.tupleExact _) (wpAny_newObj_type (wpAny_pure ⟨_, rfl, wpAny_pure h⟩) htake)
    | exact wpAny_bind (m := Builtin.Tuple.tupleExact _) (wpAny_newObj_type (wpAny_bind (wpAny_pure (wpAny_pure ⟨_, rfl, wpAny_pure h⟩))) htake)
    | exact wpAny_bind (wpAny_bind (m := Builtin.Tuple.tupleExact _) (wpAny_newObj_type (wpAny_pure (wpAny_pure ⟨_, rfl, wpAny_pure h⟩)) htake))
    | exact wpAny_bind (wpAny_bind (m := Builtin.Tuple.tupleExact _) (wpAny_newObj_type (wpAny_pure ⟨_, rfl, wpAny_pure h⟩) htake))
end
end HT

namespace L2
open PySem PySem.Spec PyProof.Rows

/-! ### the parts of a slice -/
abbrev TO := St → Hp → (Option Int → Hp → Prop) → Prop
/-- a slice's part (left out, or an int) -/
def PO (X : Cx) (e : Option Expr) (t : TO) : Prop :=
  ∀ (pins : List (Addr × Obj)) (s : Shared) (σ : St) (H : Hp) (Q : Option Int → Hp → Prop), Inv X pins σ H s → t σ H Q →
    wpAny (model X.prog X.w) X.A (evalPart e X.env) (fun u s' => ∃ o H', Inv X pins σ H' s' ∧ IsPart u o ∧ Q o H') X.xe s
def tNoPart : TO := fun _ H Q => Q none H
def tPart (t : TE) : TO := fun σ H Q => t σ H fun x H1 => ∃ i, x = .int i ∧ Q (some i) H1

theorem intsAre_of {ns : List Int} : ∀ {us : List Value}, Vals (ns.map V.int) us → IntsAre us ns := by
  induction ns with
  | nil => intro us r; rw [List.map_nil] at r; cases r; exact .nil
  | cons n ns ih =>
    intro us r
    rw [List.map_cons] at r
    cases r with
    | cons r1 r2 =>
      obtain ⟨t, e⟩ := r1
      subst e
      exact .cons n t (ih r2)

section
variable {X : Cx} {e : Expr} {te : TE} {lo hi : Option Expr} {tl th : TO} {pos p2 : Pos}

theorem po_none : PO X none tNoPart := by
  intro pins s σ H Q I h
  rw [evalPart_none]
  exact wpAny_pure ⟨none, H, I, .none, h⟩
theorem po_some (h : PE X e te) : PO X (some e) (tPart te) := by
  intro pins s σ H Q I hw
  rw [evalPart_some]
  refine thn (h pins s σ H _ I hw) fun u s1 ⟨x, H1, I1, r1, q1⟩ => ?_
  obtain ⟨i, rfl, q⟩ := q1
  obtain ⟨t, rfl⟩ := r1
  exact ⟨some i, H1, I1, .int i t, q⟩

/-- what a slice of a value is, by values: the slice object stands at sl -/
def SlR (X : Cx) (r : V → Option Int → Option Int → Hp → VK → Prop) : Prop :=
  ∀ (pins : List (Addr × Obj)) (s : Shared) (σ : St) (H : Hp) (x : V) (v vl vu : Value) (lo hi : Option Int) (sl : Addr) (Q : VK), Inv X pins σ H s → RelV x v → s.heap.IsSliceOf sl vl vu .none → IsPart vl lo → IsPart vu hi → r x lo hi H Q →
    ∃ T id, typeLookup (.type T) "__getitem__" = pure (some (.builtin id)) ∧ s.TypeIs v T ∧ wpAny (model X.prog X.w) X.A (getItem v (.ref sl)) (EP X pins σ Q) X.xe s
theorem SlR.or {r r' : V → Option Int → Option Int → Hp → VK → Prop} (h : SlR X r) (h' : SlR X r') : SlR X (fun x lo hi H Q => r x lo hi H Q ∨ r' x lo hi H Q) := by
  intro pins s σ H x v vl vu lo hi sl Q I rx hs pl pu q
  rcases q with q | q
  · exact h pins s σ H x v vl vu lo hi sl Q I rx hs pl pu q
  · exact h' pins s σ H x v vl vu lo hi sl Q I rx hs pl pu q
def tSl (r : V → Option Int → Option Int → Hp → VK → Prop) (te : TE) (tl th : TO) : TE := fun σ H Q => te σ H fun x H1 => tl σ H1 fun l H2 => th σ H2 fun u H3 => r x l u H3 Q
/-- a[lo:hi], any a -/
theorem pe_slice {r : V → Option Int → Option Int → Hp → VK → Prop} (hr : SlR X r) (he : PE X e te) (hl : PO X lo tl) (hu : PO X hi th) : PE X (.Subscript e (.Slice lo hi none p2) pos) (tSl r te tl th) := by
  intro pins s σ H Q I h
  refine Subscript_ (thn (he pins s σ H _ I h) fun v s1 ⟨x, H1, I1, r1, q1⟩ => ?_)
  refine wpAny_Slice (thn (hl pins s1 σ H1 _ I1 q1) fun vl s2 ⟨l, H2, I2, pl, q2⟩ => thn (hu pins s2 σ H2 _ I2 q2) fun vu s3 ⟨u, H3, I3, pu, q3⟩ => ?_)
  rw [evalPart_none]
  refine wpAny_pure ?_
  have I4 : Inv X pins σ H3 { s3 with heap := s3.heap.push { cls := .type "slice", data := .fields #[vl, vu, .none] } } := I3.kept (t' := s3.toks) fun b ob q => Heap.get?_push_of_some _ q
  obtain ⟨T, id, hT, ht, hg⟩ := hr pins { s3 with heap := s3.heap.push { cls := .type "slice", data := .fields #[vl, vu, .none] } } σ H3 x v vl vu l u s3.heap.objs.size Q I4 r1 (Heap.IsSliceOf.new ..) pl pu q3
  show wpAny (model X.prog X.w) X.A (subscriptTail e (.Slice lo hi none p2) v (.ref s3.heap.objs.size)) (EP X pins σ Q) X.xe { s3 with heap := s3.heap.push { cls := .type "slice", data := .fields #[vl, vu, .none] } }
  exact tail_any (ops := [.ref s3.heap.objs.size, v]) ht hT hg (by with_unfolding_all rfl)

/-- the items of xs[lo:hi] -/
def cutV (xs : List V) (lo hi : Option Int) : List V := (xs.drop (HT.sIx xs.length 0 lo)).take (HT.sIx xs.length xs.length hi - HT.sIx xs.length 0 lo)
theorem cutV_length (xs : List V) (lo hi : Option Int) : (cutV xs lo hi).length ≤ xs.length := by
  unfold cutV
  rw [List.length_take, List.length_drop]
  omega
/-- t[lo:hi], not the whole of it (the whole would be t itself) -/
def rSlT (K : PySem.W.Frag) : V → Option Int → Option Int → Hp → VK → Prop := fun x lo hi H Q => ∃ a xs, x = .ref a ∧ SqT K H a xs ∧
  ¬ (HT.sIx xs.length 0 lo = 0 ∧ HT.sIx xs.length xs.length hi = xs.length) ∧ ∀ p, H p = none → Q (.ref p) (upd H p (.tup (cutV xs lo hi)))
theorem sl_tup : SlR X (rSlT X.K) := by
  intro pins s σ H x v vl vu lo hi sl Q I rx hs pl pu h
  obtain ⟨a, xs, rfl, hx, hw, q⟩ := h
  cases rx
  obtain ⟨its, r, ht, hz⟩ := I.tuple hx
  have hlen : its.toArray.size = xs.length := by rw [List.size_toArray]; exact r.length.symm
  refine ⟨"tuple", _, PyProof.Rows.slot_tuple_getitem.lookup, ht.typeIs, ?_⟩
  refine HT.getItem_tuple_cut ht hs pl pu (by rw [hlen]; exact hw) ?_ (by rw [hlen]; exact hz)
  rw [hlen]
  refine ⟨.ref s.heap.objs.size, _, I.laid (t' := s.toks) (o := .tup (cutV xs lo hi)) (fun b ob q => Heap.get?_push_of_some _ q) (Nat.le_refl _) ?_, rfl, q _ (I.hok.fresh (Nat.le_refl _))⟩
  exact ⟨Nat.le_trans (cutV_length xs lo hi) hz, _, (r.drop (HT.sIx xs.length 0 lo)).take (HT.sIx xs.length xs.length hi - HT.sIx xs.length 0 lo), IsTup.new _ _⟩

/-! ### t < u, t + u -/
def rLtT (K : PySem.W.Frag) : R2 := fun x y H Q => ∃ a b ns ms, x = .ref a ∧ y = .ref b ∧ SqT K H a (ns.map V.int) ∧ SqT K H b (ms.map V.int) ∧ Q (.bl (HT.lexLt ns ms)) H
theorem op_ltT (hu : X.A.units < cLine) : OpR X (compareOp .Lt) (rLtT X.K) := by
  intro pins s σ H x y v u Q I rx ry h
  obtain ⟨a, b, ns, ms, rfl, rfl, ha, hb, q⟩ := h
  cases rx
  cases ry
  obtain ⟨its, r1, p1, _⟩ := I.tuple ha
  obtain ⟨its2, r2, p2, _⟩ := I.tuple hb
  have i1 : IntsAre its.toArray.toList ns := intsAre_of r1
  have i2 : IntsAre its2.toArray.toList ms := intsAre_of r2
  exact HT.lt_tupInts p1 p2 i1 i2 hu ⟨.bl (HT.lexLt ns ms), H, I, rfl, q⟩
/-- t + u, t not empty: u empty gives t itself -/
def rCatT (K : PySem.W.Frag) : R2 := fun x y H Q => ∃ a b xs ys, x = .ref a ∧ y = .ref b ∧ SqT K H a xs ∧ SqT K H b ys ∧ xs ≠ [] ∧ xs.length + ys.length ≤ sizeLine ∧
  (ys = [] → Q (.ref a) H) ∧ (ys ≠ [] → ∀ p, H p = none → Q (.ref p) (upd H p (.tup (xs ++ ys))))
theorem Vals.nil_iff {xs : List V} {us : List Value} (r : Vals xs us) : us = [] ↔ xs = [] := by
  cases r with
  | nil => simp
  | cons _ _ => simp
theorem op_catT : OpR X (binaryOp .Add) (rCatT X.K) := by
  intro pins s σ H x y v u Q I rx ry h
  obtain ⟨a, b, xs, ys, rfl, rfl, ha, hb, hx, hz, q1, q2⟩ := h
  cases rx
  cases ry
  obtain ⟨its, r1, p1, _⟩ := I.tuple ha
  obtain ⟨its2, r2, p2, _⟩ := I.tuple hb
  refine HT.cat_tup p1 p2 (fun z => hx (r1.nil_iff.mp z)) (fun z => ⟨.ref a, H, I, rfl, q1 (r2.nil_iff.mp z)⟩) (fun z => ?_) (by rw [← r1.length, ← r2.length]; exact hz)
  refine ⟨.ref s.heap.objs.size, _, I.laid (t' := s.toks) (o := .tup (xs ++ ys)) (fun b ob q => Heap.get?_push_of_some _ q) (Nat.le_refl _) ?_, rfl, q2 (fun w => z (r2.nil_iff.mpr w)) _ (I.hok.fresh (Nat.le_refl _))⟩
  exact ⟨by rw [List.length_append]; exact hz, _, r1.append r2, IsTup.new _ _⟩
/-- tuple(t) -/
theorem call_tupleT : CallR X (.type "tuple") (fun xs H Q => ∃ a ys, xs = [.ref a] ∧ SqT X.K H a ys ∧ Q (.ref a) H) := by
  intro pins s σ H xs us Q I r h
  obtain ⟨a, ys, rfl, ha, q⟩ := h
  obtain ⟨u, rfl, ru⟩ := vals1 r
  cases ru
  obtain ⟨its, _, p1, _⟩ := I.tuple ha
  exact call_tuple_same (items := its.toArray) p1 ⟨.ref a, H, I, rfl, q⟩
end
end L2

namespace L2
open PySem PySem.Spec PyProof.Rows

/-! ### places -/
/-- the place that an index of any sign means -/
def ixN (n : Nat) (i : Int) : Option Nat := if 0 ≤ i then (if i < n then some i.toNat else none) else if -(n : Int) ≤ i then some (i + n).toNat else none
def atI {α : Type} (xs : List α) (i : Int) : Option α := (ixN xs.length i).bind fun j => xs[j]?
theorem ixN_seq {n : Nat} {i : Int} {j : Nat} (h : ixN n i = some j) : seqIndex? i n = some j ∧ j < n ∧ -(n : Int) ≤ i ∧ i < n := by
  unfold ixN at h
  by_cases h0 : 0 ≤ i
  · rw [if_pos h0] at h
    by_cases h1 : i < n
    · rw [if_pos h1] at h
      have e : i.toNat = j := Option.some.inj h
      exact ⟨by rw [seqIndex_of h0 h1, e], by omega, by omega, h1⟩
    · rw [if_neg h1] at h; cases h
  · rw [if_neg h0] at h
    by_cases h1 : -(n : Int) ≤ i
    · rw [if_pos h1] at h
      have e : (i + n).toNat = j := Option.some.inj h
      exact ⟨by rw [seqIndex_neg (by omega) h1, e], by omega, h1, by omega⟩
    · rw [if_neg h1] at h; cases h
theorem atI_get {α : Type} {xs : List α} {i : Int} {v : α} (h : atI xs i = some v) : ∃ j, seqIndex? i xs.length = some j ∧ xs[j]? = some v ∧ j < xs.length ∧ -(xs.length : Int) ≤ i ∧ i < xs.length := by
  unfold atI at h
  cases e : ixN xs.length i with
  | none => rw [e] at h; cases h
  | some j =>
    rw [e] at h
    obtain ⟨h1, h2, h3, h4⟩ := ixN_seq e
    exact ⟨j, h1, h, h2, h3, h4⟩
theorem atI_nat {α : Type} {xs : List α} {j : Nat} {v : α} (h : xs[j]? = some v) : atI xs (j : Int) = some v := by
  have hj : j < xs.length := (List.getElem?_eq_some_iff.mp h).1
  have e : ixN xs.length (j : Int) = some j := by
    unfold ixN
    rw [if_pos (by omega), if_pos (by omega)]; simp
  unfold atI; rw [e]; exact h
theorem atI_last {α : Type} (xs : List α) (v : α) : atI (xs ++ [v]) (-1) = some v := by
  have hl : (xs ++ [v]).length = xs.length + 1 := by simp
  have e : ixN (xs ++ [v]).length (-1) = some xs.length := by
    unfold ixN
    rw [hl, if_neg (by decide), if_pos (by omega)]
    congr 1
    omega
  unfold atI
  rw [e]
  show (xs ++ [v])[xs.length]? = some v
  simp

/-! ### what may be subscripted -/
/-- what stands as an index of a plain subscript -/
def PlainIx (b : Expr) : Prop := ∀ o i, subscripted b false o i = operate [o, i] (getItem o i)
/-- a subscript by values -/
def IxR (X : Cx) (r : R2) : Prop :=
  ∀ (value slice : Expr) (pins : List (Addr × Obj)) (s : Shared) (σ : St) (H : Hp) (x y : V) (v u : Value) (Q : VK), Inv X pins σ H s → RelV x v → RelV y u → r x y H Q →
    subscripted slice false v u = operate [v, u] (getItem v u) → wpAny (model X.prog X.w) X.A (subscriptTail value slice v u) (EP X pins σ Q) X.xe s
/-- a call of a builtin's method by values: the receiver, the arguments -/
def MtR (X : Cx) (id : String) (r : V → List V → Hp → VK → Prop) : Prop :=
  ∀ (pins : List (Addr × Obj)) (s : Shared) (σ : St) (H : Hp) (x : V) (xs : List V) (v : Value) (us : List Value) (Q : VK), Inv X pins σ H s → RelV x v → Vals xs us → r x xs H Q →
    wpAny (model X.prog X.w) X.A (call (.builtin id) (v :: us)) (EP X pins σ Q) X.xe s
section
variable {X : Cx} {a b : Expr} {ta tb : TE} {pos : Pos}
theorem IxR.or {r r' : R2} (h : IxR X r) (h' : IxR X r') : IxR X (fun x y H Q => r x y H Q ∨ r' x y H Q) := by
  intro value slice pins s σ H x y v u Q I rx ry q hs
  rcases q with q | q
  · exact h value slice pins s σ H x y v u Q I rx ry q hs
  · exact h' value slice pins s σ H x y v u Q I rx ry q hs
theorem MtR.or {id : String} {r r' : V → List V → Hp → VK → Prop} (h : MtR X id r) (h' : MtR X id r') : MtR X id (fun x xs H Q => r x xs H Q ∨ r' x xs H Q) := by
  intro pins s σ H x xs v us Q I rx rs q
  rcases q with q | q
  · exact h pins s σ H x xs v us Q I rx rs q
  · exact h' pins s σ H x xs v us Q I rx rs q
/-- a[b] -/
theorem pe_ix {r : R2} (hr : IxR X r) (ha : PE X a ta) (hb : PE X b tb) (hs : PlainIx b) : PE X (.Subscript a b pos) (tOp r ta tb) := by
  intro pins s σ H Q I h
  exact Subscript_ (binT ha hb I h fun v u s2 x y H2 I2 rx ry q => hr a b pins s2 σ H2 x y v u Q I2 rx ry q (hs _ _))

def rIxL (K : PySem.W.Frag) : R2 := fun x y H Q => ∃ p xs i v, x = .ref p ∧ y = .int i ∧ SqL K H p xs ∧ atI xs i = some v ∧ Q v H
def rIxT (K : PySem.W.Frag) : R2 := fun x y H Q => ∃ p xs i v, x = .ref p ∧ y = .int i ∧ SqT K H p xs ∧ atI xs i = some v ∧ Q v H
def rIxS : R2 := fun x y H Q => ∃ z i c, x = .str z ∧ y = .int i ∧ z.length ≤ sizeLine ∧ atI z.cps.toList i = some c ∧ Q (.str ⟨#[c]⟩) H
theorem ix_list : IxR X (rIxL X.K) := by
  intro value slice pins s σ H x y v u Q I rx ry h hs
  obtain ⟨p, xs, i, z, rfl, rfl, hq, he, q⟩ := h
  cases rx
  obtain ⟨t, rfl⟩ := ry
  obtain ⟨its, r, pl, hz⟩ := I.list hq
  obtain ⟨j, h1, h2, h3, h4, h5⟩ := atI_get he
  obtain ⟨w, ew, rw'⟩ := r.get h2
  have hl := r.length
  have hn := line63
  have fin : EP X pins σ Q w s := ⟨z, H, I, rw', q⟩
  by_cases h0 : 0 ≤ i
  · have hj : i.toNat = j := by
      rw [seqIndex_of h0 h5] at h1
      exact Option.some.inj h1
    exact item_listR pl.isList h0 (by omega) (by rw [hj]; simpa using ew) fin hs
  · have hj : (i + (its.toArray.size : Int)).toNat = j := by
      rw [seqIndex_neg (by omega) h4] at h1
      rw [List.size_toArray, ← hl]
      exact Option.some.inj h1
    exact subscriptTail_builtinR (x := w) pl.isList.typeIs slot_list_getitem.lookup
      (wpAny_getItem_list_neg (Q := fun r s' => r = w ∧ EP X pins σ Q r s') pl.isList (by omega) (by rw [List.size_toArray] <;> omega) (by omega) (by rw [hj]; simpa using ew) ⟨rfl, fin⟩) hs
theorem ix_tup : IxR X (rIxT X.K) := by
  intro value slice pins s σ H x y v u Q I rx ry h hs
  obtain ⟨p, xs, i, z, rfl, rfl, hq, he, q⟩ := h
  cases rx
  obtain ⟨t, rfl⟩ := ry
  obtain ⟨its, r, pl, hz⟩ := I.tuple hq
  obtain ⟨j, h1, h2, h3, h4, h5⟩ := atI_get he
  obtain ⟨w, ew, rw'⟩ := r.get h2
  have hl := r.length
  have hn := line63
  have fin : EP X pins σ Q w s := ⟨z, H, I, rw', q⟩
  exact subscriptTail_builtinR (x := w) pl.typeIs slot_tuple_getitem.lookup
    (getItem_tuple (j := j) (Q := fun r s' => r = w ∧ EP X pins σ Q r s') pl (by omega) (by omega) (by rw [List.size_toArray, ← hl]; exact h1) (by simpa using ew) ⟨rfl, fin⟩) hs
theorem ix_str : IxR X rIxS := by
  intro value slice pins s σ H x y v u Q I rx ry h hs
  obtain ⟨z, i, c, rfl, rfl, hz, he, q⟩ := h
  obtain ⟨t, rfl⟩ := rx
  obtain ⟨t', rfl⟩ := ry
  obtain ⟨j, h1, h2, h3, h4, h5⟩ := atI_get he
  have hl : z.cps.toList.length = z.length := by simp [Str.length]
  rw [hl] at h1 h4 h5
  have hn := line63
  exact tail_any (typeIs_str s z t) slot_str_getitem.lookup (getItem_str (c := c) (by
    have e1 : decide (i < -(2 ^ 63 : Int)) = false := decide_eq_false (by omega)
    have e2 : decide (i ≥ 2 ^ 63) = false := decide_eq_false (by omega)
    rw [e1, e2, Bool.or_false]) (by rw [h1]; simpa using h2) ⟨.str ⟨#[c]⟩, H, I.tok _, ⟨_, rfl⟩, q⟩) hs
/-- list, tuple or str -/
def rIx (K : PySem.W.Frag) : R2 := fun x y H Q => rIxL K x y H Q ∨ rIxT K x y H Q ∨ rIxS x y H Q
theorem ix_seq : IxR X (rIx X.K) := ix_list.or (ix_tup.or ix_str)

/-! ### xs[i] = v, any sign -/
/-- the list's object behind a store -/
theorem mapSeq_set (its : List Value) (n j : Nat) (u : Value) : Obj.mapSeq (·.setIfInBounds j u) { cls := .type "list", data := .seq its.toArray n } = { cls := .type "list", data := .seq (its.set j u).toArray n } := by
  simp [Obj.mapSeq]
theorem Inv.lst {pins : List (Addr × Obj)} {σ : St} {H : Hp} {s : Shared} {p : Addr} {xs : List V} (I : Inv X pins σ H s) (h : H p = some (.lst xs)) :
    ∃ (its : List Value) (n : Nat), Vals xs its ∧ s.heap.get? p = some { cls := .type "list", data := .seq its.toArray n } ∧ xs.length ≤ sizeLine := by
  obtain ⟨z, its, n, r, e⟩ := I.hok p _ h
  exact ⟨its, n, r, e, z⟩
/-- the list at p is written by an update of its object -/
theorem Inv.lstUpd {pins : List (Addr × Obj)} {σ : St} {H : Hp} {s : Shared} {p : Addr} {xs ys : List V} {its its' : List Value} {n n' : Nat} {f : Obj → Obj} (I : Inv X pins σ H s) (h : H p = some (.lst xs))
    (ho : s.heap.get? p = some { cls := .type "list", data := .seq its.toArray n }) (hf : f { cls := .type "list", data := .seq its.toArray n } = { cls := .type "list", data := .seq its'.toArray n' }) (r : Vals ys its') (hz : ys.length ≤ sizeLine) (t : Nat) :
    Inv X pins σ (upd H p (.lst ys)) { s with heap := s.heap.update p f, toks := t } := by
  have e : (s.heap.update p f).get? p = some { cls := .type "list", data := .seq its'.toArray n' } := by
    rw [Heap.get?_update_self f ho (by rw [hf] <;> rfl), hf]
  refine I.write (x := p) (e := p) (by rw [h]; trivial) (.inl rfl) (fun b u hb q => (Heap.get?_update_other _ _ (Ne.symm hb)).trans q) ⟨_, e⟩ ?_
  exact ⟨hz, its', n', r, e⟩
def rSetL : V → V → V → Hp → (Hp → Prop) → Prop := fun o i v H Q => ∃ p xs k j, o = .ref p ∧ i = .int k ∧ H p = some (.lst xs) ∧ ixN xs.length k = some j ∧ Q (upd H p (.lst (xs.set j v)))
theorem set_list : PSet X rSetL := by
  intro pins s σ H o i v ov iv u Q I ro ri rv h
  obtain ⟨p, xs, k, j, rfl, rfl, hp, hj, q⟩ := h
  cases ro
  obtain ⟨t, rfl⟩ := ri
  obtain ⟨its, n, r, ho, hz⟩ := I.lst hp
  obtain ⟨h1, h2, h3, h4⟩ := ixN_seq hj
  have hl := r.length
  have hn := line63
  have I' : Inv X pins σ (upd H p (.lst (xs.set j v))) { s with heap := s.heap.update p (Obj.mapSeq (·.setIfInBounds j u)) } :=
    I.lstUpd hp ho (mapSeq_set its n j u) (r.set rv j) (by rw [List.length_set]; exact hz) s.toks
  by_cases h0 : 0 ≤ k
  · have hk : k.toNat = j := by
      rw [seqIndex_of h0 h4] at h1
      exact Option.some.inj h1
    exact PySem.W.ki_setAt ho h0 (by omega) (by rw [List.size_toArray, ← hl]; exact h4) (by rw [hk]; exact ⟨_, I', q⟩)
  · have hk : (k + (its.toArray.size : Int)).toNat = j := by
      rw [seqIndex_neg (by omega) h3] at h1
      rw [List.size_toArray, ← hl]
      exact Option.some.inj h1
    exact PySem.W.ki_setBack ho (by omega) (by rw [List.size_toArray, ← hl]; exact h3) (by omega) (by rw [hk]; exact ⟨_, I', q⟩)

/-! ### slices -/
theorem slice_bounds (lo hi : Option Int) (n : Nat) : (sliceBounds lo hi none n).1 = ((HT.sIx n 0 lo : Nat) : Int) ∧ (sliceBounds lo hi none n).2.1 = ((HT.sIx n n hi : Nat) : Int) ∧ (sliceBounds lo hi none n).2.2 = 1 := by
  refine ⟨?_, ?_, rfl⟩
  · cases lo with
    | none => simp [sliceBounds, HT.sIx]
    | some i =>
      simp only [sliceBounds, HT.sIx, Option.getD_none, show (1 : Int) > 0 by decide, if_true]
      by_cases h : i < 0
      · simp only [h, if_true] <;> omega
      · simp only [h, if_false] <;> omega
  · cases hi with
    | none => simp [sliceBounds, HT.sIx]
    | some i =>
      simp only [sliceBounds, HT.sIx, Option.getD_none, show (1 : Int) > 0 by decide, if_true]
      by_cases h : i < 0
      · simp only [h, if_true] <;> omega
      · simp only [h, if_false] <;> omega
theorem slicePick_cut (its : List Value) (lo hi : Option Int) : slicePick its.toArray lo hi none = ((its.drop (HT.sIx its.length 0 lo)).take (HT.sIx its.length its.length hi - HT.sIx its.length 0 lo)).toArray := by
  obtain ⟨h1, h2, h3⟩ := slice_bounds lo hi its.toArray.size
  unfold slicePick
  rw [h1, h2, h3]
  simp only [sliceRange_one, pick_run, List.size_toArray] <;> rfl
/-- xs[lo:hi] of a list: a new list -/
def rSlL (K : PySem.W.Frag) : V → Option Int → Option Int → Hp → VK → Prop := fun x lo hi H Q => ∃ a xs, x = .ref a ∧ SqL K H a xs ∧ ∀ p, H p = none → Q (.ref p) (upd H p (.lst (cutV xs lo hi)))
theorem sl_list : SlR X (rSlL X.K) := by
  intro pins s σ H x v vl vu lo hi sl Q I rx hs pl pu h
  obtain ⟨a, xs, rfl, hx, q⟩ := h
  cases rx
  obtain ⟨its, r, ht, hz⟩ := I.list hx
  have hlen := r.length
  refine ⟨"list", _, slot_list_getitem.lookup, ht.isList.typeIs, ?_⟩
  refine wpAny_getItem_list_slice ht.isList hs pl pu .none (by simp) ?_ (by rw [List.size_toArray] <;> omega)
  rw [slicePick_cut, ← hlen]
  refine ⟨.ref s.heap.objs.size, _, I.laid (t' := s.toks) (o := .lst (cutV xs lo hi)) (fun b ob q => Heap.get?_push_of_some _ q) (Nat.le_refl _) ?_, rfl, q _ (I.hok.fresh (Nat.le_refl _))⟩
  exact ⟨Nat.le_trans (cutV_length xs lo hi) hz, _, 0, (r.drop (HT.sIx xs.length 0 lo)).take (HT.sIx xs.length xs.length hi - HT.sIx xs.length 0 lo), Heap.get?_push_size _ rfl⟩

/-! ### in, not in: flat items -/
def flatV : V → Bool
  | .non => true
  | .bl _ => true
  | .int _ => true
  | .str _ => true
  | _ => false
/-- == of flat values -/
def eqV : V → V → Bool
  | .non, .non => true
  | .bl a, .bl b => a == b
  | .bl a, .int b => (if a then 1 else 0) == b
  | .int a, .bl b => a == (if b then 1 else 0)
  | .int a, .int b => a == b
  | .str a, .str b => a == b
  | _, _ => false
theorem eqAt_V {A : Around} {s : Shared} {y x : V} {u v : Value} (ry : RelV y u) (rx : RelV x v) (fy : flatV y = true) (fx : flatV x = true) : SeqAt.EqAt A s u v (eqV y x) := by
  cases y with
  | non =>
    cases ry
    cases x with
    | non => cases rx; exact SeqAt.EqAt.same _
    | bl b => cases rx; exact SeqAt.EqAt.none_bool b
    | int b => obtain ⟨t, rfl⟩ := rx; exact SeqAt.EqAt.none_int b t
    | str b => obtain ⟨t, rfl⟩ := rx; exact SeqAt.EqAt.none_str b t
    | _ => exact absurd (show false = true from fx) Bool.false_ne_true
  | bl a =>
    cases ry
    cases x with
    | non => cases rx; exact SeqAt.EqAt.bool_none a
    | bl b => cases rx; exact SeqAt.EqAt.bool_bool a b
    | int b => obtain ⟨t, rfl⟩ := rx; exact SeqAt.EqAt.bool_int a b t
    | str b => obtain ⟨t, rfl⟩ := rx; exact SeqAt.EqAt.bool_str a b t
    | _ => exact absurd (show false = true from fx) Bool.false_ne_true
  | int a =>
    obtain ⟨t', rfl⟩ := ry
    cases x with
    | non => cases rx; exact SeqAt.EqAt.int_none a t'
    | bl b => cases rx; exact SeqAt.EqAt.int_bool a t' b
    | int b => obtain ⟨t, rfl⟩ := rx; exact SeqAt.EqAt.int_int a t' b t
    | str b => obtain ⟨t, rfl⟩ := rx; exact SeqAt.EqAt.int_str a t' b t
    | _ => exact absurd (show false = true from fx) Bool.false_ne_true
  | str a =>
    obtain ⟨t', rfl⟩ := ry
    cases x with
    | non => cases rx; exact SeqAt.EqAt.str_none a t'
    | bl b => cases rx; exact SeqAt.EqAt.str_bool a t' b
    | int b => obtain ⟨t, rfl⟩ := rx; exact SeqAt.EqAt.str_int a t' b t
    | str b => obtain ⟨t, rfl⟩ := rx; exact SeqAt.EqAt.str_str a t' b t
    | _ => exact absurd (show false = true from fx) Bool.false_ne_true
  | _ => exact absurd (show false = true from fy) Bool.false_ne_true
/-- the items' answers, read off the values (a value's own answer does not lean on its token) -/
def eqU (x : V) (u : Value) : Bool := match u with
  | .none => eqV .non x
  | .bool b => eqV (.bl b) x
  | .int i _ => eqV (.int i) x
  | .str z _ => eqV (.str z) x
  | _ => false
theorem eqU_of {x y : V} {u : Value} (r : RelV y u) (f : flatV y = true) : eqU x u = eqV y x := by
  cases y with
  | non => cases r; rfl
  | bl b => cases r; rfl
  | int i => obtain ⟨t, rfl⟩ := r; rfl
  | str z => obtain ⟨t, rfl⟩ := r; rfl
  | _ => exact absurd (show false = true from f) Bool.false_ne_true
theorem any_eqU {x : V} : ∀ {xs : List V} {us : List Value}, Vals xs us → xs.all flatV = true → us.any (eqU x) = xs.any fun y => eqV y x
  | _, _, .nil, _ => rfl
  | y :: xs, u :: us, .cons r t, f => by
    rw [List.all_cons, Bool.and_eq_true] at f
    rw [List.any_cons, List.any_cons, eqU_of r f.1, any_eqU t f.2]
theorem mem_eqAt {A : Around} {s : Shared} {x : V} {v : Value} (rx : RelV x v) (fx : flatV x = true) : ∀ {xs : List V} {us : List Value}, Vals xs us → xs.all flatV = true → ∀ u ∈ us, SeqAt.EqAt A s u v (eqU x u)
  | _, _, .nil, _ => fun u hu => by cases hu
  | y :: xs, u :: us, .cons r t, f => fun u' hu => by
    rw [List.all_cons, Bool.and_eq_true] at f
    rcases List.mem_cons.mp hu with rfl | hu
    · rw [eqU_of r f.1]; exact eqAt_V r rx f.1 fx
    · exact mem_eqAt rx fx t f.2 u' hu
def inV (x : V) (xs : List V) : Bool := xs.any fun y => eqV y x
/-- x in a list or tuple of flat items -/
def rIn (K : PySem.W.Frag) (neg : Bool) : R2 := fun x y H Q => ∃ p xs, y = .ref p ∧ (SqL K H p xs ∨ SqT K H p xs) ∧ flatV x = true ∧ xs.all flatV = true ∧ Q (.bl (if neg then !inV x xs else inV x xs)) H
theorem op_in_seq : OpR X (compareOp .In) (rIn X.K false) := by
  intro pins s σ H x y v u Q I rx ry h
  obtain ⟨p, xs, rfl, hq, fx, fs, q⟩ := h
  cases ry
  rcases hq with hq | hq
  · obtain ⟨its, r, pl, hz⟩ := I.list hq
    refine SeqAt.in_listAt (eqU x) pl.isList (fun w hw => mem_eqAt rx fx r fs w (by simpa using hw)) ⟨.bl _, H, I, rfl, ?_⟩
    rw [show its.toArray.any (eqU x) = its.any (eqU x) by simp, any_eqU r fs]
    exact q
  · obtain ⟨its, r, pl, hz⟩ := I.tuple hq
    refine SeqAt.in_tupleAt (eqU x) pl (fun w hw => mem_eqAt rx fx r fs w (by simpa using hw)) ⟨.bl _, H, I, rfl, ?_⟩
    rw [show its.toArray.any (eqU x) = its.any (eqU x) by simp, any_eqU r fs]
    exact q
theorem op_notIn_seq : OpR X (compareOp .NotIn) (rIn X.K true) := by
  intro pins s σ H x y v u Q I rx ry h
  obtain ⟨p, xs, rfl, hq, fx, fs, q⟩ := h
  cases ry
  rcases hq with hq | hq
  · obtain ⟨its, r, pl, hz⟩ := I.list hq
    refine SeqAt.notIn_listAt (eqU x) pl.isList (fun w hw => mem_eqAt rx fx r fs w (by simpa using hw)) ⟨.bl _, H, I, rfl, ?_⟩
    rw [show its.toArray.any (eqU x) = its.any (eqU x) by simp, any_eqU r fs]
    exact q
  · obtain ⟨its, r, pl, hz⟩ := I.tuple hq
    refine SeqAt.notIn_tupleAt (eqU x) pl (fun w hw => mem_eqAt rx fx r fs w (by simpa using hw)) ⟨.bl _, H, I, rfl, ?_⟩
    rw [show its.toArray.any (eqU x) = its.any (eqU x) by simp, any_eqU r fs]
    exact q
theorem op_notIn_str : OpR X (compareOp .NotIn) (fun x y H Q => ∃ i j, x = .str i ∧ y = .str j ∧ Q (.bl (!(!(Builtin.Str.occurrences j i 0 j.length 1).isEmpty))) H) := by
  intro pins s σ H x y v u Q I rx ry h
  obtain ⟨i, j, rfl, rfl, q⟩ := h
  obtain ⟨t, rfl⟩ := rx
  obtain ⟨t', rfl⟩ := ry
  exact notIn_str ⟨.bl _, H, I, rfl, q⟩

/-! ### len, list(x), tuple(x) of any list or tuple that is read -/
theorem call_len_seq : CallR X (.builtin "len") (fun xs H Q => ∃ p ys, xs = [.ref p] ∧ (SqL X.K H p ys ∨ SqT X.K H p ys) ∧ Q (.int ys.length) H) := by
  intro pins s σ H xs us Q I r h
  obtain ⟨p, ys, rfl, hq, q⟩ := h
  obtain ⟨u, rfl, rx⟩ := vals1 r
  cases rx
  have hn := line63
  rcases hq with hq | hq
  · obtain ⟨its, r', pl, hz⟩ := I.list hq
    have hlen := r'.length
    exact Calls.call_len_list pl.isList (by simp only [List.size_toArray] <;> omega) ⟨.int ys.length, H, I.tok _, ⟨s.toks + 1, by rw [List.size_toArray, hlen]⟩, q⟩
  · obtain ⟨its, r', pl, hz⟩ := I.tuple hq
    have hlen := r'.length
    exact len_tuple pl (by simp only [List.size_toArray] <;> omega) ⟨.int ys.length, H, I.tok _, ⟨s.toks + 1, by rw [List.size_toArray, hlen]⟩, q⟩
theorem call_len_str : CallR X (.builtin "len") (fun xs H Q => ∃ z, xs = [.str z] ∧ z.length ≤ sizeLine ∧ Q (.int z.length) H) := by
  intro pins s σ H xs us Q I r h
  obtain ⟨z, rfl, hz, q⟩ := h
  obtain ⟨u, rfl, t, rfl⟩ := vals1 r
  have hn := line63
  exact len_str (by omega) ⟨.int z.length, H, I.tok _, ⟨_, rfl⟩, q⟩
theorem CallR.or {f : Value} {r r' : List V → Hp → VK → Prop} (h : CallR X f r) (h' : CallR X f r') : CallR X f (fun xs H Q => r xs H Q ∨ r' xs H Q) := by
  intro pins s σ H xs us Q I rs q
  rcases q with q | q
  · exact h pins s σ H xs us Q I rs q
  · exact h' pins s σ H xs us Q I rs q
theorem call_list_of : CallR X (.type "list") (fun xs H Q => ∃ p ys, xs = [.ref p] ∧ (SqL X.K H p ys ∨ SqT X.K H p ys) ∧ ∀ l, H l = none → Q (.ref l) (upd H l (.lst ys))) := by
  intro pins s σ H xs us Q I r h
  obtain ⟨p, ys, rfl, hq, q⟩ := h
  obtain ⟨u, rfl, rx⟩ := vals1 r
  cases rx
  have fin : ∀ (its : List Value), Vals ys its → ys.length ≤ sizeLine → ∀ (h' : Heap) (c' : Nat), (∀ b o', s.heap.get? b = some o' → h'.get? b = some o') →
      h'.get? s.heap.objs.size = some { cls := .type "list", dict := none, data := .seq its.toArray c', slots := #[] } → EP X pins σ Q (.ref s.heap.objs.size) { s with heap := h' } := fun its r' hz h' c' kp e =>
    ⟨.ref s.heap.objs.size, _, I.laid (t' := s.toks) kp (Nat.le_refl _) (show ObjOk X.prog X.w _ h' _ (.lst ys) from ⟨hz, its, c', r', e⟩), rfl, q _ (I.hok.fresh (Nat.le_refl _))⟩
  rcases hq with hq | hq
  · obtain ⟨its, r', pl, hz⟩ := I.list hq
    have hlen := r'.length
    obtain ⟨o, ho, hc, n, hd⟩ := pl.isList
    exact call_list_seq p (.inl rfl) ho hc hd (fun h' c' kp e => fin its r' hz h' c' kp e) (by simp only [List.size_toArray] <;> omega)
  · obtain ⟨its, r', pl, hz⟩ := I.tuple hq
    have hlen := r'.length
    obtain ⟨o, ho, hc, n, hd⟩ := pl
    exact call_list_seq p (.inr rfl) ho hc hd (fun h' c' kp e => fin its r' hz h' c' kp e) (by simp only [List.size_toArray] <;> omega)
theorem call_tuple_of : CallR X (.type "tuple") (fun xs H Q => ∃ p ys, xs = [.ref p] ∧ ((SqL X.K H p ys ∧ ∀ l, H l = none → Q (.ref l) (upd H l (.tup ys))) ∨ (SqT X.K H p ys ∧ Q (.ref p) H))) := by
  intro pins s σ H xs us Q I r h
  obtain ⟨p, ys, rfl, h⟩ := h
  obtain ⟨u, rfl, rx⟩ := vals1 r
  cases rx
  rcases h with ⟨hq, q⟩ | ⟨hq, q⟩
  · obtain ⟨its, r', pl, hz⟩ := I.list hq
    have hlen := r'.length
    refine call_tuple_list pl.isList (fun h' kp => ?_) (by simp only [List.size_toArray] <;> omega)
    have I1 : Inv X pins σ H { s with heap := h' } := I.kept (t' := s.toks) kp
    have I2 : Inv X pins σ (upd H h'.objs.size (.tup ys)) { s with heap := h'.push { cls := .type "tuple", data := .seq its.toArray } } :=
      I1.laid (t' := s.toks) (fun b o e => Heap.get?_push_of_some _ e) (Nat.le_refl _) (show ObjOk X.prog X.w _ _ _ (.tup ys) from ⟨hz, its, r', IsTup.new _ _⟩)
    exact ⟨.ref h'.objs.size, _, I2, rfl, q _ (I1.hok.fresh (Nat.le_refl _))⟩
  · obtain ⟨its, r', pl, hz⟩ := I.tuple hq
    exact call_tuple_same pl ⟨.ref p, H, I, rfl, q⟩

/-! ### the call of a builtin's method: o.m(..) -/
/-- the value is of that builtin type -/
def tyV (K : PySem.W.Frag) (T : String) (x : V) (H : Hp) : Prop := match x with
  | .str _ => T = "str"
  | .int _ => T = "int"
  | .ref p => (T = "list" ∧ ∃ xs, SqL K H p xs) ∨ (T = "tuple" ∧ ∃ o, K.lookup p = some o ∧ o.cls = .type "tuple" ∧ o.dict = none) ∨
      (T = "dict" ∧ ((∃ kvs, H p = some (.dK kvs)) ∨ ∃ kvs, H p = some (.dT kvs))) ∨ (T = "set" ∧ ∃ S n, H p = some (.set S n))
  | _ => False
theorem tyV_is {pins : List (Addr × Obj)} {σ : St} {H : Hp} {s : Shared} {T : String} {x : V} {v : Value} (I : Inv X pins σ H s) (r : RelV x v) (ty : tyV X.K T x H) :
    s.TypeIs v T ∧ ∀ a, v = .ref a → ∃ ob, s.heap.get? a = some ob ∧ ob.dict = none := by
  cases x with
  | str z =>
    obtain ⟨t, rfl⟩ := r
    cases (show T = "str" from ty)
    exact ⟨typeIs_str s z t, fun _ e => nomatch e⟩
  | int i =>
    obtain ⟨t, rfl⟩ := r
    cases (show T = "int" from ty)
    exact ⟨typeIs_int s i t, fun _ e => nomatch e⟩
  | ref p =>
    cases r
    rcases ty with ⟨rfl, xs, hq⟩ | ⟨rfl, o, hk, hc, hd⟩ | ⟨rfl, hk⟩ | ⟨rfl, S, n, hk⟩
    · obtain ⟨its, _, pl, _⟩ := I.list hq
      refine ⟨pl.isList.typeIs, fun a e => ?_⟩
      cases e
      obtain ⟨o, n, e, c, hd, _⟩ := pl
      exact ⟨o, e, hd⟩
    · refine ⟨⟨o, I.kIn p o hk, hc⟩, fun a e => ?_⟩
      cases e
      exact ⟨o, I.kIn _ o hk, hd⟩
    · have z : ∃ o, s.heap.get? p = some o ∧ o.ExactDict := by
        rcases hk with ⟨kvs, hk⟩ | ⟨kvs, hk⟩
        · obtain ⟨_, _, _, _, o, _, _, e, ex, _⟩ := I.hok p _ hk
          exact ⟨o, e, ex⟩
        · obtain ⟨_, _, _, _, o, _, _, e, ex, _⟩ := I.hok p _ hk
          exact ⟨o, e, ex⟩
      obtain ⟨o, e, ex⟩ := z
      refine ⟨⟨o, e, ex.1⟩, fun a e2 => ?_⟩
      cases e2
      exact ⟨o, e, ex.2.1⟩
    · obtain ⟨o, _, _, _, e, ex, _⟩ := I.hok p _ hk
      refine ⟨⟨o, e, ex.1⟩, fun a e2 => ?_⟩
      cases e2
      exact ⟨o, e, ex.2.1⟩
  | _ => exact False.elim ty
def tBM0 (K : PySem.W.Frag) (T : String) (r : V → List V → Hp → VK → Prop) (to : TE) : TE := fun σ H Q => to σ H fun x H1 => tyV K T x H1 ∧ r x [] H1 Q
def tBM (K : PySem.W.Frag) (T : String) (r : V → List V → Hp → VK → Prop) (to : TE) (t : TA) : TE := fun σ H Q => to σ H fun x H1 => tyV K T x H1 ∧ t σ H1 fun xs H2 => r x xs H2 Q
variable {o e : Expr} {es : List Expr} {to : TE} {t : TA} {name : Str} {apos cpos : Pos} {T id : String} {r : V → List V → Hp → VK → Prop}
theorem pe_bm0 (pa : PlainAttrs T) (slot : Slot T name id) (hty : typeOf (.builtin id) = pure (.type "method_descriptor")) (hm : MtR X id r) (ho : PE X o to)
    (hbase : attributeBase o name X.env (eval o X.env) = eval o X.env := by rfl) (hline : (apos.endLine == cpos.line) = true := by rfl) : PE X (.Call (.Attribute o name apos) [] [] cpos) (tBM0 X.K T r to) := by
  intro pins s σ H Q I h
  refine wpAny_Call_method0_late hbase hline (thn (ho pins s σ H _ I h) fun v s1 ⟨x, H1, I1, r1, ty, q1⟩ => ?_)
  obtain ⟨h1, h2⟩ := tyV_is I1 r1 ty
  exact ⟨T, id, pa, slot, hty, h1, h2, Calls.callWith_builtin rfl (PySem.evalArgs_none (hm pins s1 σ H1 x [] v [] Q I1 r1 .nil q1))⟩
theorem pe_bm (pa : PlainAttrs T) (slot : Slot T name id) (hty : typeOf (.builtin id) = pure (.type "method_descriptor")) (hm : MtR X id r) (ho : PE X o to) (ha : PA X (e :: es) t)
    (hbase : attributeBase o name X.env (eval o X.env) = eval o X.env := by rfl)
    (hfew : ((backTo cpos (starEach (e :: es) X.env)).all (fun x => !x.1) && (backToKw cpos (keywordEach [] X.env)).all (fun x => x.1.isSome)
      && decide ((e :: es).length + ([] : List Keyword).length + (if ([] : List Keyword).isEmpty then 0 else 1) < 30)) = true := by rfl)
    (hline : (apos.endLine == cpos.line) = true := by rfl) (hs : starEach (e :: es) X.env = (false, eval e X.env) :: starEach es X.env := by rfl) (hplain : (backTo cpos (starEach es X.env)).any (·.1) = false := by rfl) :
    PE X (.Call (.Attribute o name apos) (e :: es) [] cpos) (tBM X.K T r to t) := by
  intro pins s σ H Q I h
  refine wpAny_Call_method_late hbase hfew hline rfl (thn (ho pins s σ H _ I h) fun v s1 ⟨x, H1, I1, r1, ty, q1⟩ => ?_)
  obtain ⟨h1, h2⟩ := tyV_is I1 r1 ty
  refine ⟨T, id, pa, slot, hty, h1, h2, ?_⟩
  have hA := ha cpos pins s1 σ H1 _ I1 q1
  rw [hs] at hA ⊢
  refine Calls.callWith_builtin (by show (false || (backTo cpos (starEach es X.env)).any (·.1)) = false; rw [hplain] <;> rfl) (Calls.evalArgs_plain ?_)
  exact thn hA fun us s2 ⟨vs, H2, I2, r2, q2⟩ => hm pins s2 σ H2 x vs v us Q I2 r1 r2 q2
/- xs.append(e), list.index on a module's tuple .. are MtR facts of 06m -/
end
end L2

namespace L2
open PySem PySem.Spec PyProof.Rows

def MtM (X : Cx) (id : String) (r : V → List V → Hp → VK → Prop) : Prop :=
  ∀ (pins : List (Addr × Obj)) (s : Shared) (σ : St) (H : Hp) (x : V) (xs : List V) (v : Value) (us : List Value) (Q : VK), Inv X pins σ H s → RelV x v → Vals xs us → r x xs H Q →
    wpAny (model X.prog X.w) X.A (call (.builtin id) (v :: us)) (EP X pins σ Q) X.xe s

/-! ### lists of values -/
theorem Vals.one : ∀ {x : V} {us : List Value}, Vals [x] us → ∃ u, us = [u] ∧ RelV x u
  | _, _, .cons r .nil => ⟨_, rfl, r⟩
theorem Vals.two : ∀ {x y : V} {us : List Value}, Vals [x, y] us → ∃ u v, us = [u, v] ∧ RelV x u ∧ RelV y v
  | _, _, _, .cons r (.cons q .nil) => ⟨_, _, rfl, r, q⟩
theorem Vals.zero : ∀ {us : List Value}, Vals [] us → us = []
  | _, .nil => rfl
theorem Vals.dropLast {xs : List V} {us : List Value} (h : Vals xs us) : Vals xs.dropLast us.dropLast := by
  induction h with
  | nil => exact .nil
  | cons r t ih =>
    cases t with
    | nil => exact .nil
    | cons q t' => exact .cons r ih
theorem Vals.eraseIdx : ∀ {xs : List V} {us : List Value} (i : Nat), Vals xs us → Vals (xs.eraseIdx i) (us.eraseIdx i)
  | _, _, _, .nil => .nil
  | _, _, 0, .cons _ t => t
  | _, _, i + 1, .cons r t => .cons r (Vals.eraseIdx i t)
theorem Vals.reverse {xs : List V} {us : List Value} (h : Vals xs us) : Vals xs.reverse us.reverse := by
  induction h with
  | nil => exact .nil
  | cons r t ih => rw [List.reverse_cons, List.reverse_cons]; exact Vals.append ih (.cons r .nil)
theorem Vals.rep {xs : List V} {us : List Value} (h : Vals xs us) : ∀ k : Nat, Vals (List.replicate k xs).flatten (List.replicate k us).flatten
  | 0 => .nil
  | k + 1 => by
    rw [List.replicate_succ, List.replicate_succ, List.flatten_cons, List.flatten_cons]
    exact Vals.append h (Vals.rep h k)
theorem erase_last {α : Type} (l : List α) : l.eraseIdx (l.length - 1) = l.dropLast := by
  induction l with
  | nil => rfl
  | cons a r ih =>
    cases r with
    | nil => rfl
    | cons b r =>
      have e : (a :: b :: r).length - 1 = ((b :: r).length - 1) + 1 := by
        have h1 : (a :: b :: r).length = r.length + 2 := rfl
        have h2 : (b :: r).length = r.length + 1 := rfl
        omega
      rw [e, List.eraseIdx_cons_succ, ih]
      all_goals rfl
theorem len_erase {α : Type} : ∀ (l : List α) (i : Nat), (l.eraseIdx i).length ≤ l.length
  | [], _ => Nat.le_refl _
  | _ :: _, 0 => Nat.le_succ _
  | _ :: r, i + 1 => Nat.succ_le_succ (len_erase r i)
theorem foldl_rep (its : List Value) : ∀ (k : Nat) (acc : List Value),
    List.foldl (fun x1 x2 => x1 ++ x2) acc.toArray (List.replicate k its.toArray) = (acc ++ (List.replicate k its).flatten).toArray
  | 0, acc => by simp
  | k + 1, acc => by
    have e : acc.toArray ++ its.toArray = (acc ++ its).toArray := by simp
    have e2 : (acc ++ its) ++ (List.replicate k its).flatten = acc ++ (List.replicate (k + 1) its).flatten := by
      rw [List.replicate_succ, List.flatten_cons, List.append_assoc]
    rw [← e2, ← foldl_rep its k (acc ++ its), ← e, List.replicate_succ, List.foldl_cons]

section
variable {X : Cx} {pins : List (Addr × Obj)} {σ : St} {H : Hp} {s : Shared} {l b : Addr} {xs ys zs : List V}

/-! ### the two steps: a tracked list is rewritten, a new list is laid -/
theorem Inv.lset {its its' : List Value} {n : Nat} {f : Array Value → Array Value} {t' : Nat} (I : Inv X pins σ H s) (hH : H l = some (.lst xs))
    (e : s.heap.get? l = some { cls := .type "list", data := .seq its.toArray n }) (hf : f its.toArray = its'.toArray) (hv : Vals ys its') (hz : ys.length ≤ sizeLine) :
    Inv X pins σ (upd H l (.lst ys)) { s with heap := s.heap.update l (Obj.mapSeq f), toks := t' } := by
  have q := PySem.IsL.update e f
  rw [hf] at q
  refine I.write (x := l) (e := l) (by rw [hH]; exact trivial) (.inl rfl) (fun b' u hb hu => (Heap.get?_update_other s.heap (Obj.mapSeq f) (Ne.symm hb)).trans hu) ⟨_, q⟩ ?_
  exact ⟨hz, its', _, hv, q⟩
theorem Inv.lnew {its : List Value} {t' : Nat} (I : Inv X pins σ H s) (hv : Vals ys its) (hz : ys.length ≤ sizeLine) :
    Inv X pins σ (upd H s.heap.objs.size (.lst ys)) { s with heap := s.heap.push { cls := .type "list", data := .seq its.toArray }, toks := t' } :=
  I.laid (fun _ _ q => Heap.get?_push_of_some _ q) (Nat.le_refl _) ⟨hz, its, 0, hv, Heap.get?_push_size _ rfl⟩
theorem Inv.fresh (I : Inv X pins σ H s) : H s.heap.objs.size = none := I.hok.fresh (Nat.le_refl _)
theorem Inv.lstM (I : Inv X pins σ H s) (hH : H l = some (.lst xs)) : xs.length ≤ sizeLine ∧ ∃ (its : List Value) (n : Nat), Vals xs its ∧ xs.length = its.length ∧ s.heap.get? l = some { cls := .type "list", data := .seq its.toArray n } := by
  obtain ⟨z, its, n, r, e⟩ := I.hok l _ hH
  exact ⟨z, its, n, r, r.length, e⟩

theorem notLongL {n : Nat} (h : n ≤ sizeLine) : Builtin.List.listTooLong n = false := by
  unfold Builtin.List.listTooLong
  exact decide_eq_false (by omega)
end

section
variable {X : Cx}

/-! ### methods -/
def rAppend : V → List V → Hp → VK → Prop := fun x vs H Q => ∃ l xs y, x = .ref l ∧ vs = [y] ∧ H l = some (.lst xs) ∧ xs.length < sizeLine ∧ Q .non (upd H l (.lst (xs ++ [y])))
theorem mt_append : MtM X "list.append" rAppend := by
  intro pins s σ H x vs v us Q I rx rv h
  obtain ⟨l, xs, y, rfl, rfl, hH, hz, q⟩ := h
  cases rx
  obtain ⟨u, rfl, ru⟩ := rv.one
  obtain ⟨z, its, n, r, hl, e⟩ := I.lstM hH
  refine call_meets F.slot_list_append ⟨_, e, rfl⟩ F.entry_list_append (F.args_list_append_2 _ _) (PySem.list_append l its.toArray n u (by rw [List.size_toArray]; omega)) ⟨e, ?_⟩
  refine ⟨.non, _, I.lset (its' := its ++ [u]) hH e (by simp) (r.append (.cons ru .nil)) ?_, rfl, q⟩
  rw [List.length_append, List.length_singleton]
  omega

def rExtend : V → List V → Hp → VK → Prop := fun x vs H Q => ∃ l b xs zs, x = .ref l ∧ vs = [.ref b] ∧ H l = some (.lst xs) ∧ H b = some (.lst zs) ∧ xs.length + zs.length ≤ sizeLine ∧ Q .non (upd H l (.lst (xs ++ zs)))
theorem mt_extend : MtM X "list.extend" rExtend := by
  intro pins s σ H x vs v us Q I rx rv h
  obtain ⟨l, b, xs, zs, rfl, rfl, hH, hB, hz, q⟩ := h
  cases rx
  obtain ⟨u, rfl, ru⟩ := rv.one
  cases ru
  obtain ⟨z, its, n, r, hl, e⟩ := I.lstM hH
  obtain ⟨z2, its2, n2, r2, hl2, e2⟩ := I.lstM hB
  have hsz : its.toArray.size + its2.toArray.size ≤ sizeLine := by rw [List.size_toArray, List.size_toArray]; omega
  have hlong : ¬ (!its.toArray.isEmpty && Builtin.List.listTooLong (its.toArray.size + its2.toArray.size)) = true := by
    rw [notLongL hsz, Bool.and_false]
    exact Bool.false_ne_true
  refine call_meets F.slot_list_extend ⟨_, e, rfl⟩ F.entry_list_extend (F.args_list_extend_2 _ _)
    (AutoSeq1.list_extend_list_list_0 l its.toArray n b its2.toArray n2 hlong (by rw [List.size_toArray]; omega) (by omega)) ⟨e, e2, ?_⟩
  refine ⟨.non, _, I.lset (its' := its ++ its2) hH e (by simp) (r.append r2) ?_, rfl, q⟩
  rw [List.length_append]
  omega

def rPop : V → List V → Hp → VK → Prop := fun x vs H Q => ∃ l xs y, x = .ref l ∧ vs = [] ∧ H l = some (.lst xs) ∧ xs[xs.length - 1]? = some y ∧ Q y (upd H l (.lst xs.dropLast))
theorem mt_pop : MtM X "list.pop" rPop := by
  intro pins s σ H x vs v us Q I rx rv h
  obtain ⟨l, xs, y, rfl, rfl, hH, hy, q⟩ := h
  cases rx
  have hus := rv.zero
  subst hus
  obtain ⟨z, its, n, r, hl, e⟩ := I.lstM hH
  obtain ⟨u, hu, ru⟩ := r.get hy
  have hy' : its.toArray[its.toArray.size - 1]? = some u := by
    show its.toArray[its.length - 1]? = some u
    rw [← Array.getElem?_toList, ← hl]
    exact hu
  refine call_meets F.slot_list_pop ⟨_, e, rfl⟩ F.entry_list_pop (F.args_list_pop_1 _) (MeetsSeq.list_pop_last l its.toArray n u hy' (by rw [List.size_toArray]; omega)) ⟨e, ?_⟩
  refine ⟨y, _, I.lset (its' := its.dropLast) hH e ?_ r.dropLast ?_, ru, q⟩
  · show its.toArray.eraseIdxIfInBounds (its.toArray.size - 1) = its.dropLast.toArray
    rw [List.size_toArray, List.eraseIdxIfInBounds_toArray, erase_last]
  · rw [List.length_dropLast]
    omega

def rPopAt : V → List V → Hp → VK → Prop := fun x vs H Q => ∃ l xs i k y, x = .ref l ∧ vs = [.int i] ∧ H l = some (.lst xs) ∧ -(2 ^ 63) ≤ i ∧ i < 2 ^ 63 ∧ seqIndex? i xs.length = some k ∧ xs[k]? = some y ∧ Q y (upd H l (.lst (xs.eraseIdx k)))
theorem mt_popAt : MtM X "list.pop" rPopAt := by
  intro pins s σ H x vs v us Q I rx rv h
  obtain ⟨l, xs, i, k, y, rfl, rfl, hH, h1, h2, hk, hy, q⟩ := h
  cases rx
  obtain ⟨u, rfl, ru⟩ := rv.one
  obtain ⟨t, rfl⟩ := ru
  obtain ⟨z, its, n, r, hl, e⟩ := I.lstM hH
  obtain ⟨w, hw, rw'⟩ := r.get hy
  refine call_meets F.slot_list_pop ⟨_, e, rfl⟩ F.entry_list_pop (F.args_list_pop_2 _ _)
    (MeetsSeq.list_pop_at l its.toArray n i t k w (fitsIndex_both h1 h2) (by rw [List.size_toArray, ← hl]; exact hk) (by rw [← Array.getElem?_toList]; exact hw) (by rw [List.size_toArray]; omega)) ⟨e, ?_⟩
  refine ⟨y, _, I.lset (its' := its.eraseIdx k) hH e ?_ (r.eraseIdx k) ?_, rw', q⟩
  · show its.toArray.eraseIdxIfInBounds k = (its.eraseIdx k).toArray
    rw [List.eraseIdxIfInBounds_toArray]
  · have := len_erase xs k
    omega

def rReverse : V → List V → Hp → VK → Prop := fun x vs H Q => ∃ l xs, x = .ref l ∧ vs = [] ∧ H l = some (.lst xs) ∧ Q .non (upd H l (.lst xs.reverse))
theorem mt_reverse : MtM X "list.reverse" rReverse := by
  intro pins s σ H x vs v us Q I rx rv h
  obtain ⟨l, xs, rfl, rfl, hH, q⟩ := h
  cases rx
  have hus := rv.zero
  subst hus
  obtain ⟨z, its, n, r, hl, e⟩ := I.lstM hH
  refine call_meets F.slot_list_reverse ⟨_, e, rfl⟩ F.entry_list_reverse (F.args_list_reverse_1 _) (AutoSeq1.list_reverse_list_0 l its.toArray n (by rw [List.size_toArray]; omega)) ⟨e, ?_⟩
  refine ⟨.non, _, I.lset (its' := its.reverse) hH e (by simp) r.reverse ?_, rfl, q⟩
  rw [List.length_reverse]
  omega

def rClear : V → List V → Hp → VK → Prop := fun x vs H Q => ∃ l xs, x = .ref l ∧ vs = [] ∧ H l = some (.lst xs) ∧ Q .non (upd H l (.lst []))
theorem mt_clear : MtM X "list.clear" rClear := by
  intro pins s σ H x vs v us Q I rx rv h
  obtain ⟨l, xs, rfl, rfl, hH, q⟩ := h
  cases rx
  have hus := rv.zero
  subst hus
  obtain ⟨z, its, n, r, hl, e⟩ := I.lstM hH
  refine call_meets F.slot_list_clear ⟨_, e, rfl⟩ F.entry_list_clear (F.args_list_clear_1 _) (AutoSeq1.list_clear_list_0 l its.toArray n (by rw [List.size_toArray]; omega)) ⟨e, ?_⟩
  exact ⟨.non, _, I.lset (its' := []) (ys := []) hH e rfl .nil (Nat.zero_le _), rfl, q⟩

/-! ### list + list, list += list, list * int -/
def rCat : R2 := fun x y H Q => ∃ l b xs zs, x = .ref l ∧ y = .ref b ∧ H l = some (.lst xs) ∧ H b = some (.lst zs) ∧ xs.length + zs.length ≤ sizeLine ∧ ∀ p, H p = none → Q (.ref p) (upd H p (.lst (xs ++ zs)))
theorem op_cat : OpR X (binaryOp .Add) rCat := by
  intro pins s σ H x y v u Q I rx ry h
  obtain ⟨l, b, xs, zs, rfl, rfl, hH, hB, hz, q⟩ := h
  cases rx
  cases ry
  obtain ⟨z, its, n, r, hl, e⟩ := I.lstM hH
  obtain ⟨z2, its2, n2, r2, hl2, e2⟩ := I.lstM hB
  refine PySem.P.add_list e e2 ?_ (by rw [List.size_toArray, List.size_toArray]; omega)
  have ea : its.toArray ++ its2.toArray = (its ++ its2).toArray := by simp
  rw [ea]
  exact ⟨.ref _, _, I.lnew (t' := s.toks) (r.append r2) (by rw [List.length_append]; omega), rfl, q _ I.fresh⟩
/-- a list times an int (a negative one is nothing) -/
def rRep : R2 := fun x y H Q => ∃ l k xs, x = .ref l ∧ y = .int k ∧ H l = some (.lst xs) ∧ -(2 ^ 63) ≤ k ∧ k < 2 ^ 63 ∧ xs.length * k.toNat ≤ sizeLine ∧
  ∀ p, H p = none → Q (.ref p) (upd H p (.lst (List.replicate k.toNat xs).flatten))
theorem len_rep {α : Type} (xs : List α) (k : Nat) : (List.replicate k xs).flatten.length = k * xs.length := by
  induction k with
  | zero => simp
  | succ k ih => rw [List.replicate_succ, List.flatten_cons, List.length_append, ih, Nat.succ_mul, Nat.add_comm]
theorem op_rep : OpR X (binaryOp .Mult) rRep := by
  intro pins s σ H x y v u Q I rx ry h
  obtain ⟨l, k, xs, rfl, rfl, hH, h1, h2, hz, q⟩ := h
  cases rx
  obtain ⟨t, rfl⟩ := ry
  obtain ⟨z, its, n, r, hl, e⟩ := I.lstM hH
  have hlen : its.toArray.size * k.toNat ≤ sizeLine := by rw [List.size_toArray, ← hl]; exact hz
  have hcap : ¬ its.toArray.size * k.toNat > (2 ^ 63 - 1) / 8 := by
    have : (sizeLine : Nat) ≤ (2 ^ 63 - 1) / 8 := by decide
    omega
  have hfit : ¬ (!Builtin.List.listFitsIndex k) = true := by
    rw [fitsIndex_both h1 h2]
    exact Bool.false_ne_true
  have hlong : ¬ Builtin.List.listTooLong (its.toArray.size * k.toNat) = true := by
    rw [notLongL hlen]
    exact Bool.false_ne_true
  have hnew : List.foldl (fun x1 x2 => x1 ++ x2) #[] (List.replicate (if its.toArray.isEmpty = true then 0 else k.toNat) its.toArray) = (List.replicate k.toNat its).flatten.toArray := by
    have f0 : ∀ m : Nat, List.foldl (fun x1 x2 => x1 ++ x2) #[] (List.replicate m its.toArray) = (List.replicate m its).flatten.toArray := fun m => by
      have := foldl_rep its m []
      rw [List.nil_append] at this
      exact this
    rw [f0]
    cases its with
    | nil => simp
    | cons a r' => rw [if_neg (by simp)]
  refine wpAny_binaryOp_repeat_ref (T := "list") (U := "int") (by decide) ⟨_, e, rfl⟩ (fun s' => typeIs_int s' k t) noFill_list_mul F.fills_int_mul F.slot_int_rmul repeat_list F.slot_int_index.lookup
    (call_meets F.slot_int_rmul (typeIs_int s k t) F.entry_int_rmul (F.args_int_rmul_2 _ _) (int___rmul___int_list k t l its.toArray n)
      ⟨e, rfl, ⟨_, e, rfl⟩, call_meets F.slot_list_mul ⟨_, e, rfl⟩ F.entry_list_mul (F.args_list_mul_2 _ _) (AutoListH.list___mul___list_int_3 l its.toArray n k t hfit hcap hlong) ⟨e, ?_⟩⟩)
  rw [hnew]
  exact ⟨.ref _, _, I.lnew (t' := s.toks) (r.rep k.toNat) (by rw [len_rep, Nat.mul_comm]; exact hz), rfl, q _ I.fresh⟩

/-! ### del xs[i] -/
theorem del_list {pins : List (Addr × Obj)} {s : Shared} {σ : St} {H : Hp} {l : Addr} {xs : List V} {i : Int} {t : Tok} {k : Nat} {Q : Unit → Shared → Prop} (I : Inv X pins σ H s) (hH : H l = some (.lst xs))
    (h1 : -(2 ^ 63) ≤ i) (h2 : i < 2 ^ 63) (hk : seqIndex? i xs.length = some k) (h : ∀ s', Inv X pins σ (upd H l (.lst (xs.eraseIdx k))) s' → Q () s') :
    wpAny (model X.prog X.w) X.A (delItem (.ref l) (.int i t)) Q X.xe s := by
  obtain ⟨z, its, n, r, hl, e⟩ := I.lstM hH
  refine PySem.P.delItem_list (k := k) e (fitsIndex_both h1 h2) (by rw [List.size_toArray, ← hl]; exact hk) (h _ ?_) (by rw [List.size_toArray]; omega)
  refine I.lset (its' := its.eraseIdx k) (t' := s.toks) hH e ?_ (r.eraseIdx k) ?_
  · show its.toArray.eraseIdxIfInBounds k = (its.eraseIdx k).toArray
    rw [List.eraseIdxIfInBounds_toArray]
  · have := len_erase xs k
    omega
end

/-! ### xs[a:b] = ys -/
section
variable {prog : Program} {w : World} {A : Around} {E : Value → Shared → Prop} {s : Shared}
theorem splice_eq (its its2 : List Value) (a c : Nat) : its.toArray.extract 0 a ++ its2.toArray ++ its.toArray.extract c its.toArray.size = (its.take a ++ its2 ++ its.drop c).toArray := by
  apply Array.toList_inj.mp
  first
    | (simp
       exact List.take_of_length_le (by simp))
    | simp [List.take_of_length_le]
    | simp
theorem bounds_run {a c n : Nat} (hac : a ≤ c) (hc : c ≤ n) : sliceBounds (some (a : Int)) (some (c : Int)) none n = ((a : Int), (c : Int), 1) := by
  simp only [sliceBounds, Option.getD_none]
  have h1 : ¬ ((a : Int) < 0) := by omega
  have h2 : ¬ ((c : Int) < 0) := by omega
  simp only [h1, h2, if_false, show (1 : Int) > 0 by decide, if_true]
  congr 1
  · omega
  · congr 1; omega
set_option maxRecDepth 100000 in
/-- list.__setitem__ with a slice of step one and another list -/
theorem setItem_slice {l b sl : Addr} {items new : Array Value} {n n2 : Nat} {vl vu : Value} {a c : Nat} {Q : Unit → Shared → Prop}
    (e : s.heap.get? l = some { cls := .type "list", data := .seq items n }) (e2 : s.heap.get? b = some { cls := .type "list", data := .seq new n2 }) (hne : l ≠ b)
    (hs : s.heap.IsSliceOf sl vl vu .none) (pl : IsPart vl (some (a : Int))) (pu : IsPart vu (some (c : Int))) (hac : a ≤ c) (hc : c ≤ items.size)
    (hsz : items.size + new.size ≤ sizeLine) (h : Q () { s with heap := s.heap.update l (Obj.mapSeq fun xs => xs.extract 0 a ++ new ++ xs.extract c xs.size) }) :
    wpAny (model prog w) A (setItem (.ref l) (.ref sl) (.ref b)) Q E s := by
  have hl : s.heap.IsList l items := PySem.IsL.isList e
  have hb : s.heap.IsList b new := PySem.IsL.isList e2
  obtain ⟨os, hos, hcs, hds⟩ := id hs
  have hTs : s.TypeIs (.ref sl) "slice" := ⟨os, hos, hcs⟩
  have hstep : ¬ ((rawPart none == rawInt 0) = true) := Bool.false_ne_true
  have hsame : Builtin.List.listSameRef (.ref l) (.ref b) = false := by
    unfold Builtin.List.listSameRef
    exact beq_eq_false_iff_ne.mpr hne
  have hmax : (max (a : Int) (c : Int)).toNat = c := by omega
  have hz' : ((fun xs : Array Value => xs.extract 0 a ++ new ++ xs.extract c xs.size) items).size ≤ sizeLine + 1 := by
    simp only [Array.size_append, Array.size_extract]
    omega
  unfold setItem
  try with_reducible refine wpAny_holding ?_
  first | refine wpAny_bind (wpAny_pure ?_) | skip
  refine wpAny_bind (wpAny_sequenceKey hl.typeIs (by decide) ?_)
  refine wpAny_bind (wpAny_callSpecial?_slot (name := Str.ofString "__setitem__") hl.typeIs slot_list_setitem
    (wpAny_call_entry slot_list_setitem hl.typeIs entry_list_setitem ?_ (args_list_setitem _ _ _)))
  show wpAny _ _ (Builtin.List.listSubscript? (.ref sl) >>= _) _ _ s
  refine wpAny_bind ?_
  unfold Builtin.List.listSubscript?
  refine wpAny_bind (wpAny_specialOf hTs slice_no_index ?_)
  simp only [Option.isNone_none, if_true]
  refine wpAny_pure ?_
  show wpAny _ _ (typeOf (.ref sl) >>= _) _ _ s
  refine wpAny_bind (wpAny_typeOf hTs ?_)
  first
    | rw [if_neg (by decide)]
    | refine PySem.W.KFB.if_not (by decide) ?_
  rw [listSliceParts_eq]
  refine wpAny_bind (wpAny_bind (wpAny_field hos hds (x := .none) rfl (wpAny_bind (wpAny_listPart .none ?_))))
  rw [if_neg hstep]
  refine wpAny_bind (wpAny_field hos hds (x := vl) rfl (wpAny_bind (wpAny_listPart pl ?_)))
  refine wpAny_bind (wpAny_field hos hds (x := vu) rfl (wpAny_bind (wpAny_listPart pu (wpAny_pure ?_))))
  first
    | simp only [hsame, Bool.false_eq_true, if_false]
    | refine PySem.W.KFB.if_not hsame ?_
    | (dsimp only
       rw [if_neg (by rw [hsame]; exact Bool.false_ne_true)])
  refine wpAny_bind (m := Builtin.List.listAllItems (.ref b) "must assign iterable to extended slice") ?_
  unfold Builtin.List.listAllItems
  refine wpAny_bind (wpAny_typeOf hb.typeIs ?_)
  first
    | refine PySem.W.KFB.if_so (by decide) ?_
    | rw [if_pos (by decide)]
    | simp only [beq_self_eq_true, Bool.true_or, if_true]
  unfold Builtin.List.listItems
  refine wpAny_bind (wpAny_seqItems e2 rfl (wpAny_pure ?_))
  refine wpAny_bind (wpAny_bind (wpAny_seqItems e rfl (wpAny_pure ?_)))
  refine wpAny_bind (wpAny_of_eq ((sliceIndices_raw (some (a : Int)) (some (c : Int)) none items.size (by simp)).trans (congrArg (pure : Int × Int × Int → Sem (Int × Int × Int)) (bounds_run hac hc))) ?_)
  show wpAny _ _ (if ((1 : Int) == 1) = true then _ else _) _ _ s
  rw [if_pos (by decide)]
  refine wpAny_bind (wpAny_rule ?_)
  first
    | simp only [notLongL hsz, Bool.false_eq_true, if_false]
    | refine PySem.W.KFB.if_not (notLongL hsz) ?_
  first | refine wpAny_bind (wpAny_pure ?_) | skip
  show wpAny _ _ (updateSeq l (fun xs => xs.extract 0 ((a : Int)).toNat ++ new ++ xs.extract (max (a : Int) (c : Int)).toNat xs.size) >>= _) _ _ s
  rw [hmax, Int.toNat_natCast]
  refine wpAny_bind (wpAny_updateSeq (hz := Nat.le_trans (Nat.le_add_right _ _) hsz) (_hz' := hz') e rfl ?_)
  refine wpAny_bind (wpAny_letGo ?_)
  first
    | exact wpAny_bind (wpAny_pure (wpAny_pure ⟨.none, rfl, wpAny_pure h⟩))
    | exact wpAny_pure ⟨.none, rfl, wpAny_pure h⟩
end

section
variable {X : Cx}
/-- xs[a:c] = ys of another list, at the value level: sl is the slice object that was just made -/
theorem set_slice {pins : List (Addr × Obj)} {s : Shared} {σ : St} {H : Hp} {l b sl : Addr} {xs ys : List V} {a c : Int} {vl vu : Value} {Q : Unit → Shared → Prop} (I : Inv X pins σ H s)
    (hH : H l = some (.lst xs)) (hB : H b = some (.lst ys)) (hne : l ≠ b) (hs : s.heap.IsSliceOf sl vl vu .none) (ra : RelV (.int a) vl) (rc : RelV (.int c) vu) (h0 : 0 ≤ a) (hac : a ≤ c) (hc : c ≤ xs.length)
    (hz : xs.length + ys.length ≤ sizeLine) (h : ∀ s', Inv X pins σ (upd H l (.lst (xs.take a.toNat ++ ys ++ xs.drop c.toNat))) s' → Q () s') :
    wpAny (model X.prog X.w) X.A (setItem (.ref l) (.ref sl) (.ref b)) Q X.xe s := by
  obtain ⟨ta, rfl⟩ := ra
  obtain ⟨tc, rfl⟩ := rc
  obtain ⟨z, its, n, r, hl, e⟩ := I.lstM hH
  obtain ⟨z2, its2, n2, r2, hl2, e2⟩ := I.lstM hB
  obtain ⟨a', rfl⟩ := Int.eq_ofNat_of_zero_le h0
  obtain ⟨c', rfl⟩ := Int.eq_ofNat_of_zero_le (Int.le_trans h0 hac)
  simp only [Int.toNat_natCast] at h
  refine setItem_slice (a := a') (c := c') e e2 hne hs (.int _ _) (.int _ _) (by omega) (by rw [List.size_toArray]; omega) (by rw [List.size_toArray, List.size_toArray]; omega) (h _ ?_)
  refine I.lset (its' := its.take a' ++ its2 ++ its.drop c') (t' := s.toks) hH e ?_ (Vals.append (Vals.append (r.take _) r2) (r.drop _)) ?_
  · exact splice_eq its its2 a' c'
  · rw [List.length_append, List.length_append, List.length_take, List.length_drop]
    omega
end
end L2

namespace L2
open PySem PySem.Spec PyProof.Rows

theorem Vals.ints : ∀ {ns : List Int} {us : List Value}, Vals (ns.map V.int) us → IntsAre us ns
  | [], us, h => by
    rw [List.map_nil] at h
    cases h
    exact IntsAre.nil
  | n :: ns, us, h => by
    rw [List.map_cons] at h
    cases h with
    | cons r t =>
      obtain ⟨k, rfl⟩ := r
      exact IntsAre.cons n k (Vals.ints t)
theorem vals_of_ints : ∀ {us : List Value} {ns : List Int}, IntsAre us ns → Vals (ns.map V.int) us
  | _, _, .nil => by rw [List.map_nil]; exact Paired.nil
  | _, _, .cons n t h => by rw [List.map_cons]; exact Paired.cons (show RelV (V.int n) (Value.int n t) from ⟨t, rfl⟩) (vals_of_ints h)
theorem Vals.strs : ∀ {xs : List Str} {us : List Value}, Vals (xs.map V.str) us → StrsAre us xs
  | [], us, h => by
    rw [List.map_nil] at h
    cases h
    exact StrsAre.nil
  | x :: xs, us, h => by
    rw [List.map_cons] at h
    cases h with
    | cons r t =>
      obtain ⟨k, rfl⟩ := r
      exact StrsAre.cons x k (Vals.strs t)
theorem vals_of_strs : ∀ {us : List Value} {xs : List Str}, StrsAre us xs → Vals (xs.map V.str) us
  | _, _, .nil => by rw [List.map_nil]; exact Paired.nil
  | _, _, .cons x t h => by rw [List.map_cons]; exact Paired.cons (show RelV (V.str x) (Value.str x t) from ⟨t, rfl⟩) (vals_of_strs h)
theorem Vals.bls : ∀ {bs : List Bool} {us : List Value}, Vals (bs.map V.bl) us → us = bs.map Value.bool
  | [], us, h => by
    rw [List.map_nil] at h
    cases h
    rfl
  | b :: bs, us, h => by
    rw [List.map_cons] at h
    cases h with
    | cons r t =>
      cases r
      rw [Vals.bls t, List.map_cons]
theorem Vals.ref1 {a : Addr} {us : List Value} (r : Vals [V.ref a] us) : us = [Value.ref a] := by
  cases r with
  | cons r t =>
    cases t
    cases r
    rfl
theorem Vals.int2 {i j : Int} {us : List Value} (r : Vals [V.int i, V.int j] us) : ∃ t u, us = [Value.int i t, Value.int j u] := by
  cases r with
  | cons r t =>
    cases t with
    | cons r2 t2 =>
      cases t2
      obtain ⟨t, rfl⟩ := r
      obtain ⟨u, rfl⟩ := r2
      exact ⟨t, u, rfl⟩

/-! ### the library's walks over a list of ints, kept objects alone -/
section
variable {prog : Program} {w : World} {A : Around} {E : Value → Shared → Prop} {s : Shared} {l : Addr} {its : List Value} {ns : List Int} {Q : Value → Shared → Prop}
theorem sum_raw (hh : A.handled = none) (hl : s.heap.IsList l its.toArray) (hi : IntsAre its ns)
    (h : ∀ h' tk t', (∀ b o, s.heap.get? b = some o → h'.get? b = some o) → Q (.int ns.sum t') { s with heap := h', toks := tk }) : wpAny (model prog w) A (call (.builtin "sum") [.ref l]) Q E s := by
  obtain ⟨xs, e⟩ := hi.allInts.items
  have hn : numsOf (intItems xs).toList = ns := by rw [← e]; exact hi.numsOf
  rw [nums_intItems] at hn
  rw [e] at hl
  refine PySem.sum_intListG hh hl fun h' tk t' hk => ?_
  have := h h' tk t' hk
  rw [preSum_eq, List.take_of_length_le (by simp), hn]; exact this
theorem max_raw (hh : A.handled = none) (hl : s.heap.IsList l its.toArray) (hi : IntsAre its ns) (hne : 0 < ns.length)
    (h : ∀ h' tk M t', (∀ b o, s.heap.get? b = some o → h'.get? b = some o) → M ∈ ns → (∀ a, a ∈ ns → a ≤ M) → Q (.int M t') { s with heap := h', toks := tk }) : wpAny (model prog w) A (call (.builtin "max") [.ref l]) Q E s := by
  obtain ⟨xs, e⟩ := hi.allInts.items
  have hn : numsOf (intItems xs).toList = ns := by rw [← e]; exact hi.numsOf
  rw [nums_intItems] at hn
  subst hn
  rw [e] at hl
  have hsz : 0 < xs.size := by simpa using hne
  refine PySem.max_intList hh hl hsz fun v h' tk hv hk => ?_
  obtain ⟨t, rfl⟩ := intItems_at hv
  obtain ⟨h1, h2⟩ := argBest_gt (numAt xs) (xs.size - 1)
  refine h h' tk _ t hk ?_ fun a ha => ?_
  · rw [numAt_eq]; exact PySem.getD_mem (by rw [List.length_map, Array.length_toList]; omega)
  · obtain ⟨j, hj, rfl⟩ := mem_getD ha
    rw [List.length_map, Array.length_toList] at hj
    rw [← numAt_eq]; exact h2 j (by omega)
theorem min_raw (hh : A.handled = none) (hl : s.heap.IsList l its.toArray) (hi : IntsAre its ns) (hne : 0 < ns.length)
    (h : ∀ h' tk M t', (∀ b o, s.heap.get? b = some o → h'.get? b = some o) → M ∈ ns → (∀ a, a ∈ ns → M ≤ a) → Q (.int M t') { s with heap := h', toks := tk }) : wpAny (model prog w) A (call (.builtin "min") [.ref l]) Q E s := by
  obtain ⟨xs, e⟩ := hi.allInts.items
  have hn : numsOf (intItems xs).toList = ns := by rw [← e]; exact hi.numsOf
  rw [nums_intItems] at hn
  subst hn
  rw [e] at hl
  have hsz : 0 < xs.size := by simpa using hne
  refine PySem.min_intList hh hl hsz fun v h' tk hv hk => ?_
  obtain ⟨t, rfl⟩ := intItems_at hv
  obtain ⟨h1, h2⟩ := argBest_lt (numAt xs) (xs.size - 1)
  refine h h' tk _ t hk ?_ fun a ha => ?_
  · rw [numAt_eq]; exact PySem.getD_mem (by rw [List.length_map, Array.length_toList]; omega)
  · obtain ⟨j, hj, rfl⟩ := mem_getD ha
    rw [List.length_map, Array.length_toList] at hj
    rw [← numAt_eq]; exact h2 j (by omega)
end

/-! ### the calls, by values (CallR of 03t; MtR of 06l) -/
section
variable {X : Cx}
/-- sum(xs) of a list of ints -/
def rSum (K : PySem.W.Frag) : List V → Hp → VK → Prop := fun vs H Q => ∃ (a : Addr) (ns : List Int), vs = [V.ref a] ∧ SqL K H a (ns.map V.int) ∧ Q (.int ns.sum) H
/-- max(xs), min(xs) of a list of ints -/
def rMax (K : PySem.W.Frag) : List V → Hp → VK → Prop := fun vs H Q => ∃ (a : Addr) (ns : List Int), vs = [V.ref a] ∧ SqL K H a (ns.map V.int) ∧ 0 < ns.length ∧ ∀ m, m ∈ ns → (∀ y, y ∈ ns → y ≤ m) → Q (.int m) H
def rMin (K : PySem.W.Frag) : List V → Hp → VK → Prop := fun vs H Q => ∃ (a : Addr) (ns : List Int), vs = [V.ref a] ∧ SqL K H a (ns.map V.int) ∧ 0 < ns.length ∧ ∀ m, m ∈ ns → (∀ y, y ∈ ns → m ≤ y) → Q (.int m) H
theorem cr_sum (hc : X.calm = true) : CallR X (.builtin "sum") (rSum X.K) := by
  intro pins s σ H vs us Q I r h
  obtain ⟨a, ns, rfl, hs, q⟩ := h
  obtain ⟨its, rv, hl, _⟩ := I.list hs
  rw [Vals.ref1 r]
  exact sum_raw (I.ok.hd hc) hl.isList rv.ints fun h' tk t' hk => ⟨.int _, H, I.kept hk, ⟨_, rfl⟩, q⟩
theorem cr_max (hc : X.calm = true) : CallR X (.builtin "max") (rMax X.K) := by
  intro pins s σ H vs us Q I r h
  obtain ⟨a, ns, rfl, hs, hne, q⟩ := h
  obtain ⟨its, rv, hl, _⟩ := I.list hs
  rw [Vals.ref1 r]
  exact max_raw (I.ok.hd hc) hl.isList rv.ints hne fun h' tk m t' hk h1 h2 => ⟨.int _, H, I.kept hk, ⟨_, rfl⟩, q m h1 h2⟩
theorem cr_min (hc : X.calm = true) : CallR X (.builtin "min") (rMin X.K) := by
  intro pins s σ H vs us Q I r h
  obtain ⟨a, ns, rfl, hs, hne, q⟩ := h
  obtain ⟨its, rv, hl, _⟩ := I.list hs
  rw [Vals.ref1 r]
  exact min_raw (I.ok.hd hc) hl.isList rv.ints hne fun h' tk m t' hk h1 h2 => ⟨.int _, H, I.kept hk, ⟨_, rfl⟩, q m h1 h2⟩

/-! sorted, sort (fewer than 64 items: the library's own bound) -/
def rSorted (K : PySem.W.Frag) : List V → Hp → VK → Prop := fun vs H Q => ∃ (a : Addr) (ns : List Int), vs = [V.ref a] ∧ SqL K H a (ns.map V.int) ∧ ns.length < 64 ∧
  ∀ (ns' : List Int) (p : Addr), ns'.Perm ns → ns'.Pairwise (· ≤ ·) → H p = none → Q (.ref p) (upd H p (.lst (ns'.map V.int)))
def rSortedS (K : PySem.W.Frag) : List V → Hp → VK → Prop := fun vs H Q => ∃ (a : Addr) (xs : List Str), vs = [V.ref a] ∧ SqL K H a (xs.map V.str) ∧ xs.length < 64 ∧
  ∀ (ys : List Str) (p : Addr), ys.Perm xs → sortedS ys = true → H p = none → Q (.ref p) (upd H p (.lst (ys.map V.str)))
theorem small64 {n : Nat} (h : n < 64) : n ≤ sizeLine := by rw [sizeLine_eq]; omega
theorem cr_sorted : CallR X (.builtin "sorted") (rSorted X.K) := by
  intro pins s σ H vs us Q I r h
  obtain ⟨a, ns, rfl, hs, h64, q⟩ := h
  obtain ⟨its, rv, hl, _⟩ := I.list hs
  rw [Vals.ref1 r]
  have hi := rv.ints
  refine PyProof.Rows.sorted_ints hl.isList hi (by rw [hi.length]; exact h64) fun out ns' h1 h2 h3 => ?_
  obtain ⟨ep, he'⟩ := PyProof.Rows.sortedAll_at s.heap its out
  have hlen : (ns'.map V.int).length ≤ sizeLine := by rw [List.length_map, h2.length_eq]; exact small64 h64
  exact ⟨.ref _, upd H (s.heap.objs.size + 1) (.lst (ns'.map V.int)), I.laid (t' := s.toks) (fun _ _ => PyProof.Rows.sortedAll_old) (Nat.le_succ _) ⟨hlen, out.toList, ep, vals_of_ints h1, he'⟩, rfl, q ns' _ h2 h3 (I.hok.fresh (Nat.le_succ _))⟩
theorem cr_sortedS : CallR X (.builtin "sorted") (rSortedS X.K) := by
  intro pins s σ H vs us Q I r h
  obtain ⟨a, xs, rfl, hs, h64, q⟩ := h
  obtain ⟨its, rv, hl, _⟩ := I.list hs
  rw [Vals.ref1 r]
  have hlen0 := rv.length
  rw [List.length_map] at hlen0
  refine PyProof.Rows.sorted_strs hl.isList rv.strs (by rw [← hlen0]; exact h64) fun out ys h1 h2 h3 => ?_
  obtain ⟨ep, he'⟩ := PyProof.Rows.sortedAll_at s.heap its out
  have hlen : (ys.map V.str).length ≤ sizeLine := by rw [List.length_map, h2.length_eq]; exact small64 h64
  exact ⟨.ref _, upd H (s.heap.objs.size + 1) (.lst (ys.map V.str)), I.laid (t' := s.toks) (fun _ _ => PyProof.Rows.sortedAll_old) (Nat.le_succ _) ⟨hlen, out.toList, ep, vals_of_strs h1, he'⟩, rfl, q ys _ h2 h3 (I.hok.fresh (Nat.le_succ _))⟩
/-- xs.sort(), ints -/
def rSort : V → List V → Hp → VK → Prop := fun x xs H Q => ∃ (a : Addr) (ns : List Int), x = V.ref a ∧ xs = [] ∧ H a = some (.lst (ns.map V.int)) ∧ ns.length < 64 ∧
  ∀ ns' : List Int, ns'.Perm ns → ns'.Pairwise (· ≤ ·) → Q .non (upd H a (.lst (ns'.map V.int)))
theorem mt_sort : MtR X "list.sort" rSort := by
  intro pins s σ H x xs v us Q I rx rxs h
  obtain ⟨a, ns, rfl, rfl, ha, h64, q⟩ := h
  cases rx
  cases rxs
  obtain ⟨hz, its, n, rv, hob⟩ := I.hok a _ ha
  have hi := rv.ints
  refine wpAny_call_entry PyProof.Rows.slot_list_sort ⟨_, hob, rfl⟩ PyProof.Rows.entry_list_sort
    (PyProof.Rows.list_sort_tree hob hi (by rw [hi.length]; exact h64) fun out ns' h1 h2 h3 => ⟨.none, rfl, ?_⟩) (PyProof.Rows.args_list_sort _)
  obtain ⟨ep, he'⟩ := PyProof.Rows.sortedHeap_at (vs := its) (out := out) hob
  have hlen : (ns'.map V.int).length ≤ sizeLine := by rw [List.length_map, h2.length_eq]; exact small64 h64
  refine ⟨.non, upd H a (.lst (ns'.map V.int)), I.write (e := a) (t' := s.toks) (by rw [ha]; trivial) (.inl rfl) (fun b u hb hu => ?_) ⟨_, he'⟩ ⟨hlen, out.toList, ep, vals_of_ints h1, he'⟩, rfl, q ns' h2 h3⟩
  rw [PyProof.Rows.sortedHeap_old hb (Heap.lt_size hu)]; exact hu
end

/-! ### list.index, flat items -/
section
variable {X : Cx}
def rIndex (K : PySem.W.Frag) : V → List V → Hp → VK → Prop := fun x xs H Q => ∃ (a : Addr) (ys : List V) (y : V) (j : Nat) (z : V), x = V.ref a ∧ xs = [y] ∧ SqL K H a ys ∧ flatV y = true ∧ ys.all flatV = true ∧ ys[j]? = some z ∧ eqV z y = true ∧
  (∀ (m : Nat) (z' : V), m < j → ys[m]? = some z' → eqV z' y = false) ∧ Q (.int (j : Nat)) H
theorem flat_at {ys : List V} (f : ys.all flatV = true) {j : Nat} {z : V} (h : ys[j]? = some z) : flatV z = true := List.all_eq_true.mp f z (List.mem_of_getElem? h)
theorem mt_index : MtR X "list.index" (rIndex X.K) := by
  intro pins s σ H x xs v us Q I rx rxs h
  obtain ⟨a, ys, y, j, z, rfl, rfl, hs, fy, fys, hz, hzj, hno, q⟩ := h
  cases rx
  cases rxs with
  | cons ry rt =>
    rename_i uy ut
    cases rt
    obtain ⟨its, rv, ⟨⟨cls, dd, data, sl⟩, n, ho, hc, hdn, hd⟩, hlen⟩ := I.list hs
    simp only at hc hd
    subst hc hd
    obtain ⟨u, hu, ru⟩ := rv.get hz
    obtain ⟨hjl, hje⟩ := List.getElem?_eq_some_iff.mp hu
    have hvl := rv.length
    have hj : j < its.toArray.size := by simpa using hjl
    have hsl := sizeLine_eq
    refine call_meets PySem.F.slot_list_index ⟨_, ho, rfl⟩ PySem.F.entry_list_index (PySem.F.args_list_index_2 _ _)
      (SeqAt.list_indexAt a its.toArray n dd sl uy (eqU y) j hj (by omega) ?_ ?_) ⟨ho, fun u' hu' => mem_eqAt ry fy rv fys u' (by simpa using hu'), ?_⟩
    · have e1 : its.toArray[j] = u := by simpa using hje
      rw [e1, eqU_of ru (flat_at fys hz)]
      exact hzj
    · intro m hm hmj
      have hml : m < its.length := by simpa using hm
      have hmy : m < ys.length := by omega
      have hy' : ys[m]? = some ys[m] := List.getElem?_eq_getElem hmy
      obtain ⟨u2, hu2, ru2⟩ := rv.get hy'
      obtain ⟨_, hme⟩ := List.getElem?_eq_some_iff.mp hu2
      have e1 : its.toArray[m] = u2 := by simpa using hme
      rw [e1, eqU_of ru2 (flat_at fys hy')]
      exact hno m _ hmj hy'
    · exact ⟨.int (j : Nat), H, I.tok _, ⟨_, rfl⟩, q⟩
end

/-! ### type(x) of an own instance; is, is not of a module's class -/
section
variable {X : Cx}
theorem cr_type : CallR X (.type "type") (fun xs H Q => ∃ a C dx fs, xs = [V.ref a] ∧ H a = some (.ins C dx fs) ∧ Q (.ref C) H) := by
  intro pins s σ H xs us Q I r h
  obtain ⟨a, C, dx, fs, rfl, ha, q⟩ := h
  rw [Vals.ref1 r]
  obtain ⟨mA, O, _⟩ := ins_get I.hok ha
  obtain ⟨od, J, _⟩ := O.look
  exact PySem.W.kto_own J ⟨.ref C, H, I, rfl, q⟩
/-- an object of the module whose class is no tuple: a class of the text (makesIn says that its type is a type's heir) -/
theorem cls_there {K : PySem.W.Frag} {C : Addr} (h : PySem.W.makesIn K C = true) : ∃ o, K.lookup C = some o ∧ o.cls ≠ .type "tuple" := by
  unfold PySem.W.makesIn at h
  split at h
  · rename_i oc od cd sl ho
    refine ⟨_, ho, fun e => ?_⟩
    rw [Bool.and_eq_true] at h
    have h2 : PySem.W.instIn K (.ref C) (.type "type") = some true := beq_iff_eq.mp h.2
    have e2 : oc = .type "tuple" := e
    have h3 : PySem.W.instIn K (.ref C) (.type "type") = PySem.W.subIn K oc (.type "type") := by
      show ((K.lookup C).map (fun o => o.cls)).bind (fun t => PySem.W.subIn K t (.type "type")) = _
      rw [ho]
      all_goals rfl
    rw [h3, e2] at h2
    have h4 : PySem.W.subIn K (.type "tuple") (.type "type") = some false := by
      show (fastBuiltinMro "tuple").map (·.contains (.type "type")) = some false
      decide +kernel
    rw [h4] at h2
    cases h2
  · cases h
theorem op_is_cls : OpR X (compareOp .Is) (fun x y H Q => ∃ a b, x = V.ref a ∧ y = V.ref b ∧ (a = b ∨ (PySem.W.makesIn X.K a = true ∧ PySem.W.makesIn X.K b = true)) ∧ Q (.bl (decide (a = b))) H) := by
  intro pins s σ H x y v u Q I rx ry h
  obtain ⟨a, b, rfl, rfl, hab, q⟩ := h
  cases rx
  cases ry
  by_cases z : a = b
  · subst z
    exact wpAny_is_ref_self ⟨.bl _, H, I, by simp [RelV], q⟩
  · rcases hab with e | ⟨h1, h2⟩
    · exact absurd e z
    · obtain ⟨o1, e1, n1⟩ := cls_there h1
      obtain ⟨o2, e2, _⟩ := cls_there h2
      exact wpAny_is_ref_other z (I.kIn _ _ e1) (I.kIn _ _ e2) n1 ⟨.bl _, H, I, by simp [RelV, z], q⟩
theorem op_isnot_cls : OpR X (compareOp .IsNot) (fun x y H Q => ∃ a b, x = V.ref a ∧ y = V.ref b ∧ (a = b ∨ (PySem.W.makesIn X.K a = true ∧ PySem.W.makesIn X.K b = true)) ∧ Q (.bl (!decide (a = b))) H) := by
  intro pins s σ H x y v u Q I rx ry h
  obtain ⟨a, b, rfl, rfl, hab, q⟩ := h
  cases rx
  cases ry
  by_cases z : a = b
  · subst z
    exact wpAny_isNot_ref_self ⟨.bl _, H, I, by simp [RelV], q⟩
  · rcases hab with e | ⟨h1, h2⟩
    · exact absurd e z
    · obtain ⟨o1, e1, n1⟩ := cls_there h1
      obtain ⟨o2, e2, _⟩ := cls_there h2
      exact wpAny_isNot_ref_other z (I.kIn _ _ e1) (I.kIn _ _ e2) n1 ⟨.bl _, H, I, by simp [RelV, z], q⟩
end

/-! ### any(xs), all(xs) of a list of bools -/
theorem iter_any {prog : Program} {w : World} {A : Around} {E : Value → Shared → Prop} {s : Shared} {l : Addr} {items : Array Value} {Q : Value → Shared → Prop} (hl : s.heap.IsList l items)
    (h : ∀ s₂ : Shared, s₂ = { s with heap := s.heap.push { cls := .type "list_iterator", data := .fields #[.ref l, .int 0 0] } } →
      (s₂.heap.IsListIter s.heap.objs.size l 0 ∧ s₂.heap.IsList l items) → l ≠ s.heap.objs.size → Q (.ref s.heap.objs.size) s₂) : wpAny (model prog w) A (pyIter (.ref l)) Q E s := by
  have hlt : l < s.heap.objs.size := by obtain ⟨_, e, _⟩ := hl; exact Heap.lt_size e
  exact wpAny_pyIter_list hl (h _ rfl ⟨⟨_, Heap.get?_push_size _ rfl, rfl, rfl⟩, hl.push _⟩ (Nat.ne_of_lt hlt))
theorem truth_bools {prog : Program} {w : World} {A : Around} {bs : List Bool} {its : List Value} (e : its = bs.map Value.bool) :
    TruthOf prog w A (fun i v => its.toArray[i]? = some v) (fun i => bs.getD i false) := fun i v s Q E hv hq => by
  have hv' : its[i]? = some v := by simpa using hv
  rw [e, List.getElem?_map] at hv'
  obtain ⟨b, hb, rfl⟩ := Option.map_eq_some_iff.mp hv'
  have hg : bs.getD i false = b := by rw [List.getD_eq_getElem?_getD, hb] <;> rfl
  have hq' : Q (bs.getD i false) s := hq
  rw [hg] at hq'
  exact wpAny_truthy_bool hq'
theorem any_range : ∀ bs : List Bool, (List.range bs.length).any (fun i => bs.getD i false) = bs.any id
  | [] => rfl
  | b :: bs => by
    rw [List.length_cons, List.range_succ_eq_map, List.any_cons, List.any_map, List.any_cons, ← any_range bs]
    all_goals rfl
theorem all_range : ∀ bs : List Bool, (List.range bs.length).all (fun i => bs.getD i false) = bs.all id
  | [] => rfl
  | b :: bs => by
    rw [List.length_cons, List.range_succ_eq_map, List.all_cons, List.all_map, List.all_cons, ← all_range bs]
    all_goals rfl
section
variable {X : Cx}
def rAny (K : PySem.W.Frag) : List V → Hp → VK → Prop := fun vs H Q => ∃ (a : Addr) (bs : List Bool), vs = [V.ref a] ∧ SqL K H a (bs.map V.bl) ∧ Q (.bl (bs.any id)) H
def rAll (K : PySem.W.Frag) : List V → Hp → VK → Prop := fun vs H Q => ∃ (a : Addr) (bs : List Bool), vs = [V.ref a] ∧ SqL K H a (bs.map V.bl) ∧ Q (.bl (bs.all id)) H
theorem cr_any (hc : X.calm = true) : CallR X (.builtin "any") (rAny X.K) := by
  intro pins s σ H vs us Q I r h
  obtain ⟨a, bs, rfl, hs, q⟩ := h
  obtain ⟨its, rv, hl, _⟩ := I.list hs
  rw [Vals.ref1 r]
  have hb := rv.bls
  refine call_any_walk (iter_any hl.isList fun s₂ e2 st hne => ?_)
  subst e2
  refine ⟨_, _, _, _, _, _, _, rfl, Walks.list (A := X.A.in1) (I.ok.hd hc) _ a hne its.toArray, st, truth_bools hb, fun h' tk hk => ?_⟩
  refine ⟨.bl _, H, I.kept fun b o eo => hk b o (fun hmem => ?_) (Heap.get?_push_of_some _ eo), ?_, q⟩
  · rcases List.mem_cons.mp hmem with e1 | hmem
    · exact absurd (e1 ▸ Heap.lt_size eo) (Nat.lt_irrefl _)
    · cases hmem
  · show Value.bool _ = Value.bool _
    rw [← any_range, hb, List.size_toArray, List.length_map]
theorem cr_all (hc : X.calm = true) : CallR X (.builtin "all") (rAll X.K) := by
  intro pins s σ H vs us Q I r h
  obtain ⟨a, bs, rfl, hs, q⟩ := h
  obtain ⟨its, rv, hl, _⟩ := I.list hs
  rw [Vals.ref1 r]
  have hb := rv.bls
  refine call_all_walk (iter_any hl.isList fun s₂ e2 st hne => ?_)
  subst e2
  refine ⟨_, _, _, _, _, _, _, rfl, Walks.list (A := X.A.in1) (I.ok.hd hc) _ a hne its.toArray, st, truth_bools hb, fun h' tk hk => ?_⟩
  refine ⟨.bl _, H, I.kept fun b o eo => hk b o (fun hmem => ?_) (Heap.get?_push_of_some _ eo), ?_, q⟩
  · rcases List.mem_cons.mp hmem with e1 | hmem
    · exact absurd (e1 ▸ Heap.lt_size eo) (Nat.lt_irrefl _)
    · cases hmem
  · show Value.bool _ = Value.bool _
    rw [← all_range, hb, List.size_toArray, List.length_map]
end

/-! ### == and != of data at any depth: none, bools, ints, texts, lists, tuples -/
mutual
inductive Dp (K : PySem.W.Frag) (H : Hp) : V → PyData → Prop
  | non : Dp K H .non .none
  | bl (b : Bool) : Dp K H (.bl b) (.bool b)
  | int (i : Int) : Dp K H (.int i) (.int i)
  | str (x : Str) : Dp K H (.str x) (.str x)
  | lst {a : Addr} {xs : List V} {ds : List PyData} : SqL K H a xs → DpAll K H xs ds → Dp K H (.ref a) (.list ds)
  | tup {a : Addr} {xs : List V} {ds : List PyData} : SqT K H a xs → DpAll K H xs ds → Dp K H (.ref a) (.tuple ds)
inductive DpAll (K : PySem.W.Frag) (H : Hp) : List V → List PyData → Prop
  | nil : DpAll K H [] []
  | cons {v : V} {vs : List V} {d : PyData} {ds : List PyData} : Dp K H v d → DpAll K H vs ds → DpAll K H (v :: vs) (d :: ds)
end
section
variable {X : Cx} {pins : List (Addr × Obj)} {σ : St} {H : Hp} {s : Shared}
mutual
theorem Dp.reads (I : Inv X pins σ H s) : ∀ (d : PyData) (v : V) (u : Value), Dp X.K H v d → RelV v u → ∃ as, Reads s.heap u d as
  | .none, _, _, h, r => by
    cases h
    cases r
    exact ⟨_, Reads.none⟩
  | .bool b, _, _, h, r => by
    cases h
    cases r
    exact ⟨_, Reads.bool b⟩
  | .int i, _, _, h, r => by
    cases h
    obtain ⟨t, rfl⟩ := r
    exact ⟨_, Reads.int i t⟩
  | .str x, _, _, h, r => by
    cases h
    obtain ⟨t, rfl⟩ := r
    exact ⟨_, Reads.str x t⟩
  | .list ds, _, _, h, r => by
    cases h with
    | lst hs ha =>
      cases r
      obtain ⟨its, rv, ⟨o, n, ho, hc, _, hd⟩, _⟩ := I.list hs
      obtain ⟨as, hr⟩ := Dp.readsAll I ds _ its ha rv
      exact ⟨_, Reads.list ho hc hd hr⟩
  | .tuple ds, _, _, h, r => by
    cases h with
    | tup hs ha =>
      cases r
      obtain ⟨its, rv, ⟨o, ho, hc, n, hd⟩, _⟩ := I.tuple hs
      obtain ⟨as, hr⟩ := Dp.readsAll I ds _ its ha rv
      exact ⟨_, Reads.tuple ho hc hd hr⟩
  | .dict _, _, _, h, _ => by cases h
theorem Dp.readsAll (I : Inv X pins σ H s) : ∀ (ds : List PyData) (vs : List V) (us : List Value), DpAll X.K H vs ds → Vals vs us → ∃ as, ReadsAll s.heap us ds as
  | [], _, _, h, r => by
    cases h
    cases r
    exact ⟨_, ReadsAll.nil⟩
  | d :: ds, _, _, h, r => by
    cases h with
    | cons h1 h2 =>
      cases r with
      | cons r1 r2 =>
        obtain ⟨as, q1⟩ := Dp.reads I d _ _ h1 r1
        obtain ⟨bs, q2⟩ := Dp.readsAll I ds _ _ h2 r2
        exact ⟨_, ReadsAll.cons q1 q2⟩
end
end
section
variable {X : Cx}
def rEqD (K : PySem.W.Frag) : R2 := fun x y H Q => ∃ d e, Dp K H x d ∧ Dp K H y e ∧ SeqAt.shaped d = true ∧ SeqAt.shaped e = true ∧ Q (.bl (PyData.eqv d e)) H
def rNeD (K : PySem.W.Frag) : R2 := fun x y H Q => ∃ d e, Dp K H x d ∧ Dp K H y e ∧ SeqAt.shaped d = true ∧ SeqAt.shaped e = true ∧ Q (.bl (!PyData.eqv d e)) H
theorem op_eqD (hu : X.A.units + 64 < cLine) : OpR X (compareOp .Eq) (rEqD X.K) := by
  intro pins s σ H x y v u Q I rx ry h
  obtain ⟨d, e, hd, he, sd, se, q⟩ := h
  obtain ⟨as, r1⟩ := Dp.reads I d x v hd rx
  obtain ⟨bs, r2⟩ := Dp.reads I e y u he ry
  exact SeqAt.compareEq_shaped r1 r2 sd se hu ⟨.bl _, H, I, rfl, q⟩
theorem op_neD (hu : X.A.units + 64 < cLine) : OpR X (compareOp .NotEq) (rNeD X.K) := by
  intro pins s σ H x y v u Q I rx ry h
  obtain ⟨d, e, hd, he, sd, se, q⟩ := h
  obtain ⟨as, r1⟩ := Dp.reads I d x v hd rx
  obtain ⟨bs, r2⟩ := Dp.reads I e y u he ry
  exact SeqAt.compareNe_shaped r1 r2 sd se hu ⟨.bl _, H, I, rfl, q⟩
end
end L2

namespace L2
open PySem PySem.Spec PyProof.Rows
abbrev CellAt (h : Heap) (c : Addr) (v : Option Value) : Prop := h.IsCell c v
def relS (scope sc : Scope) : Scope :=
  { scope with names := scope.names.map fun (n, k) => if (k == .free && sc.kind == .function && sc.names.lookup n == some .cell) then (n, .cell) else (n, k) }

def cloFrom (cells : List (Str × Addr)) : List (Str × NameKind) → List (Str × Addr) → List (Str × Addr)
  | [], acc => acc
  | (n, k) :: r, acc => if k == .free then cloFrom cells r ((n, (cells.lookup n).getD 0) :: acc) else cloFrom cells r acc

theorem closure_loop (env : Env) (f : Str × NameKind → List (Str × Addr) → Sem (ForInStep (List (Str × Addr))))
    (hf : ∀ n k c, f (n, k) c = if k == .free then (do let a ← cellOf env n; pure (.yield ((n, a) :: c))) else pure (.yield c)) :
    ∀ (names : List (Str × NameKind)) (acc : List (Str × Addr)), (∀ y ∈ names, y.2 = .free → ∃ c, env.cells.lookup y.1 = some c) → forIn names acc f = pure (cloFrom env.cells names acc)
  | [], acc, _ => by rw [List.forIn_nil]; rfl
  | (n, k) :: r, acc, h => by
    rw [List.forIn_cons, hf]
    have ih := fun acc => closure_loop env f hf r acc fun y hy => h y (List.mem_cons_of_mem _ hy)
    unfold cloFrom
    by_cases hk : (k == NameKind.free) = true
    · rw [if_pos hk, if_pos hk]
      obtain ⟨c, hc⟩ := h (n, k) List.mem_cons_self (by simpa using hk)
      have e : cellOf env n = pure c := by unfold cellOf; rw [hc]
      rw [e]
      have e2 : (env.cells.lookup n).getD 0 = c := by rw [hc]; rfl
      rw [e2]
      exact ih _
    · rw [if_neg hk, if_neg hk]
      exact ih _
theorem closure_ok {scope : Scope} {env : Env} (h : ∀ y ∈ scope.names, y.2 = .free → ∃ c, env.cells.lookup y.1 = some c) : closureFor scope env = pure (cloFrom env.cells scope.names []) := by
  simp only [closureFor]
  rw [closure_loop env _ (fun n k c => rfl) scope.names [] h]
  rfl

theorem mem_lookup {α : Type} : ∀ {l : List (Str × α)} {n : Str} {c : α}, (n, c) ∈ l → ∃ c', l.lookup n = some c'
  | (k, v) :: r, n, c, h => by
    rw [List.lookup_cons]
    cases hb : n == k with
    | true => exact ⟨_, rfl⟩
    | false =>
      rcases List.mem_cons.mp h with e | h
      · cases e; simp at hb
      · exact mem_lookup h

theorem cloFrom_mem {cells : List (Str × Addr)} : ∀ {names : List (Str × NameKind)} {acc : List (Str × Addr)} {n : Str} {c : Addr}, (n, c) ∈ cloFrom cells names acc → (n, c) ∈ acc ∨ ((n, .free) ∈ names ∧ c = (cells.lookup n).getD 0)
  | [], _, _, _, h => .inl h
  | (m, k) :: r, acc, n, c, h => by
    unfold cloFrom at h
    split at h
    · rename_i hk
      have hk : k = .free := by simpa using hk
      rcases cloFrom_mem h with h | ⟨h1, h2⟩
      · rcases List.mem_cons.mp h with e | h
        · cases e; exact .inr ⟨hk ▸ List.mem_cons_self, rfl⟩
        · exact .inl h
      · exact .inr ⟨List.mem_cons_of_mem _ h1, h2⟩
    · rcases cloFrom_mem h with h | ⟨h1, h2⟩
      · exact .inl h
      · exact .inr ⟨List.mem_cons_of_mem _ h1, h2⟩
theorem cloFrom_acc {cells : List (Str × Addr)} : ∀ {names : List (Str × NameKind)} {acc : List (Str × Addr)} {p : Str × Addr}, p ∈ acc → p ∈ cloFrom cells names acc
  | [], _, _, h => h
  | (m, k) :: r, acc, p, h => by
    unfold cloFrom
    split
    · exact cloFrom_acc (List.mem_cons_of_mem _ h)
    · exact cloFrom_acc h
theorem cloFrom_has {cells : List (Str × Addr)} : ∀ {names : List (Str × NameKind)} {acc : List (Str × Addr)} {n : Str}, (n, .free) ∈ names → (n, (cells.lookup n).getD 0) ∈ cloFrom cells names acc
  | (m, k) :: r, acc, n, h => by
    unfold cloFrom
    rcases List.mem_cons.mp h with e | h
    · cases e
      exact cloFrom_acc List.mem_cons_self
    · split
      · exact cloFrom_has h
      · exact cloFrom_has h

theorem cells_mem : ∀ {names : List (Str × NameKind)} {h : Heap} {acc : List (Str × Addr)} {x : Str} {c : Addr}, (x, c) ∈ cellsFrom h.objs.size names acc →
    (x, c) ∈ acc ∨ ((x, .cell) ∈ names ∧ h.objs.size ≤ c ∧ CellAt (pushCells h names) c none)
  | [], _, _, _, _, h => .inl h
  | (n, k) :: r, h, acc, x, c, hm => by
    unfold cellsFrom at hm
    unfold pushCells
    split at hm
    · rename_i hk
      rw [if_pos hk]
      have hk : k = .cell := by simpa using hk
      rw [← Heap.size_push h { cls := .type "cell", data := .cell none }] at hm
      rcases cells_mem hm with hm | ⟨h1, h2, h3⟩
      · rcases List.mem_cons.mp hm with e | hm
        · cases e
          exact .inr ⟨hk ▸ List.mem_cons_self, Nat.le_refl _, _, pushCells_keeps r _ _ _ (Heap.get?_push_size _ rfl), rfl⟩
        · exact .inl hm
      · rw [Heap.size_push] at h2
        exact .inr ⟨List.mem_cons_of_mem _ h1, Nat.le_of_succ_le h2, h3⟩
    · rename_i hk
      rw [if_neg hk]
      rcases cells_mem hm with hm | ⟨h1, h2, h3⟩
      · exact .inl hm
      · exact .inr ⟨List.mem_cons_of_mem _ h1, h2, h3⟩
theorem cells_acc : ∀ {names : List (Str × NameKind)} {n : Nat} {acc : List (Str × Addr)} {p : Str × Addr}, p ∈ acc → p ∈ cellsFrom n names acc
  | [], _, _, _, h => h
  | (m, k) :: r, n, acc, p, h => by
    unfold cellsFrom
    split
    · exact cells_acc (List.mem_cons_of_mem _ h)
    · exact cells_acc h
theorem cells_has : ∀ {names : List (Str × NameKind)} {n : Nat} {acc : List (Str × Addr)} {x : Str}, (x, .cell) ∈ names → ∃ c, (x, c) ∈ cellsFrom n names acc
  | (m, k) :: r, n, acc, x, h => by
    unfold cellsFrom
    rcases List.mem_cons.mp h with e | h
    · cases e
      exact ⟨n, cells_acc List.mem_cons_self⟩
    · split
      · exact cells_has h
      · exact cells_has h
theorem cells_inj : ∀ {names : List (Str × NameKind)} {h : Heap} {acc : List (Str × Addr)} {x y : Str} {c : Addr}, (∀ p ∈ acc, p.2 < h.objs.size) → (∀ x y c, (x, c) ∈ acc → (y, c) ∈ acc → x = y) →
    (x, c) ∈ cellsFrom h.objs.size names acc → (y, c) ∈ cellsFrom h.objs.size names acc → x = y
  | [], _, _, _, _, _, _, hi, h1, h2 => hi _ _ _ h1 h2
  | (n, k) :: r, h, acc, x, y, c, hl, hi, h1, h2 => by
    unfold cellsFrom at h1 h2
    split at h1
    · rename_i hk
      rw [if_pos hk] at h2
      rw [← Heap.size_push h { cls := .type "cell", data := .cell none }] at h1 h2
      refine cells_inj (h := h.push _) (fun p hp => ?_) (fun x y c a b => ?_) h1 h2
      · rw [Heap.size_push]
        rcases List.mem_cons.mp hp with rfl | hp
        · exact Nat.lt_succ_self _
        · exact Nat.lt_succ_of_lt (hl p hp)
      · rcases List.mem_cons.mp a with e | a <;> rcases List.mem_cons.mp b with e' | b
        · cases e; cases e'; rfl
        · cases e; exact absurd (hl _ b) (Nat.lt_irrefl _)
        · cases e'; exact absurd (hl _ a) (Nat.lt_irrefl _)
        · exact hi _ _ _ a b
    · rename_i hk
      rw [if_neg hk] at h2
      exact cells_inj hl hi h1 h2

theorem newEnv_comp {M : Model} {A : Around} {E : Value → Shared → Prop} {s : Shared} {scope : Scope} {globals : Addr} {closure : List (Str × Addr)} {qual : Str} {func : Option Addr} {code : Value} {around : Env} {builtins : Addr} {Q : Env → Shared → Prop}
    (h : Q (newEnv scope s.heap.objs.size globals (cellsFrom (s.heap.objs.size + 1) scope.names closure) qual func code (some around) builtins)
      { s with heap := pushCells (s.heap.push { cls := .type "dict", data := .dict #[] }) scope.names }) :
    wpAny M A (newFunctionEnv scope globals closure [] qual func code (some around) builtins) Q E s := by
  simp only [newFunctionEnv, Option.isSome_some, if_true]
  refine wpAny_bind (wpAny_alloc ?_)
  refine wpAny_bind (wpAny_layCells _ (fun n k c => rfl) scope.names closure _ _ ?_)
  rw [show ({ s with heap := s.heap.push { cls := .type "dict", data := .dict #[] } } : Shared).heap.objs.size = s.heap.objs.size + 1 from Heap.size_push ..]
  rw [List.forIn_nil]
  exact wpAny_bind (wpAny_pure (wpAny_pure h))

/-- every name of the written scope, in the scope that runs -/
theorem lookup_relS {sc : Scope} : ∀ {names : List (Str × NameKind)} {x : Str} {k : NameKind},
    (names.map fun (n, k) => if (k == NameKind.free && sc.kind == .function && sc.names.lookup n == some .cell) then (n, NameKind.cell) else (n, k)).lookup x = some k →
    ∃ k', names.lookup x = some k' ∧ (k = k' ∨ (k' = .free ∧ k = .cell))
  | [], _, _, h => by simp at h
  | (n, k₀) :: r, x, k, h => by
    have ih := @lookup_relS sc r x k
    have h' : List.lookup x ((if (k₀ == NameKind.free && sc.kind == .function && sc.names.lookup n == some .cell) = true then (n, NameKind.cell) else (n, k₀)) :: (r.map _)) = some k := h
    cases hx : x == n with
    | true =>
      simp only [List.lookup_cons, hx]
      by_cases hc : (k₀ == NameKind.free && sc.kind == .function && sc.names.lookup n == some .cell) = true
      · rw [if_pos hc] at h'
        simp only [List.lookup_cons, hx] at h'
        cases h'
        simp only [Bool.and_eq_true, beq_iff_eq] at hc
        exact ⟨k₀, rfl, .inr ⟨hc.1.1, rfl⟩⟩
      · rw [if_neg hc] at h'
        simp only [List.lookup_cons, hx] at h'
        cases h'
        exact ⟨_, rfl, .inl rfl⟩
    | false =>
      simp only [List.lookup_cons, hx]
      by_cases hc : (k₀ == NameKind.free && sc.kind == .function && sc.names.lookup n == some .cell) = true
      · rw [if_pos hc] at h'
        simp only [List.lookup_cons, hx] at h'
        exact ih h'
      · rw [if_neg hc] at h'
        simp only [List.lookup_cons, hx] at h'
        exact ih h'
theorem lookup_relS_keep {sc : Scope} : ∀ {names : List (Str × NameKind)} {x : Str} {k : NameKind}, k ≠ .free → names.lookup x = some k →
    (names.map fun (n, k) => if (k == NameKind.free && sc.kind == .function && sc.names.lookup n == some .cell) then (n, NameKind.cell) else (n, k)).lookup x = some k
  | [], _, _, _, h => by simp at h
  | (n, k₀) :: r, x, k, hk, h => by
    have ih := @lookup_relS_keep sc r x k hk
    show List.lookup x ((if (k₀ == NameKind.free && sc.kind == .function && sc.names.lookup n == some .cell) = true then (n, NameKind.cell) else (n, k₀)) :: (r.map _)) = some k
    cases hx : x == n with
    | true =>
      simp only [List.lookup_cons, hx] at h
      cases h
      have : ¬ (k₀ == NameKind.free && sc.kind == .function && sc.names.lookup n == some .cell) = true := by simp [hk]
      rw [if_neg this]
      simp only [List.lookup_cons, hx]
    | false =>
      simp only [List.lookup_cons, hx] at h
      by_cases hc : (k₀ == NameKind.free && sc.kind == .function && sc.names.lookup n == some .cell) = true
      · rw [if_pos hc]; simp only [List.lookup_cons, hx]; exact ih h
      · rw [if_neg hc]; simp only [List.lookup_cons, hx]; exact ih h

theorem pushCells_size : ∀ (names : List (Str × NameKind)) (h : Heap), h.objs.size ≤ (pushCells h names).objs.size
  | [], _ => Nat.le_refl _
  | (_, k) :: r, h => by
    unfold pushCells
    split
    · refine Nat.le_trans ?_ (pushCells_size r _)
      rw [Heap.size_push]; exact Nat.le_succ _
    · exact pushCells_size r h


/-- the names of a comprehension's block: its own (with their places in N), or captured -/
structure BlkOk (N : List Str) (sc scope : Scope) (own : List (Str × Nat)) : Prop where
  kind : scope.kind = .function
  uniq : ∀ y ∈ scope.names, scope.names.lookup y.1 = some y.2
  ix : ∀ p ∈ own, N[p.2]? = some p.1
  free : ∀ y ∈ scope.names, y.2 = .free → sc.names.lookup y.1 = some .cell ∨ sc.names.lookup y.1 = some .free
  own : ∀ y ∈ scope.names, y.2 = .local ∨ y.2 = .cell → y.1 ∈ own.map (·.1) ∨ y.1 ∉ N
/-- the slots of the block's own names forgotten -/
def wipe (σ : St) : List Nat → St
  | [] => σ
  | v :: vs => (wipe σ vs).set v none
theorem wipe_length (σ : St) : ∀ vs : List Nat, (wipe σ vs).length = σ.length
  | [] => rfl
  | v :: vs => by unfold wipe; rw [List.length_set, wipe_length σ vs]
theorem wipe_some {σ : St} {i : Nat} {x : V} : ∀ {vs : List Nat}, (wipe σ vs)[i]? = some (some x) → σ[i]? = some (some x) ∧ i ∉ vs
  | [], h => ⟨h, by simp⟩
  | v :: vs, h => by
    unfold wipe at h
    by_cases hi : v = i
    · subst hi
      by_cases hv : v < (wipe σ vs).length
      · rw [List.getElem?_set_self hv] at h; cases h
      · rw [List.getElem?_eq_none (by simpa using hv)] at h; cases h
    · rw [List.getElem?_set_ne hi] at h
      obtain ⟨h1, h2⟩ := wipe_some h
      exact ⟨h1, by simp only [List.mem_cons, not_or]; exact ⟨fun e => hi e.symm, h2⟩⟩

/-- the context of a block that starts at s, its iterator's objects at fp -/
abbrev Cx.blk (X : Cx) (s : Shared) (H : Hp) (scope : Scope) (cenv : Env) (fp : List Addr) : Cx := { X with s_0 := s, H_0 := H, env := cenv, outer := X.stack, ex := fp, fn := fun x => scope.names.lookup x == some .cell, pn := [], xe := fun _ _ => False }
section
variable {X : Cx} {pins : List (Addr × Obj)} {σ : St} {H : Hp} {s : Shared}
theorem block_start {scope : Scope} {own : List (Str × Nat)} {fp : List Addr} (I : Inv X pins σ H s) (ok : BlkOk X.N X.env.scope scope own) (hN : X.N.Nodup) (hfp : ∀ b ∈ fp, FpOk X pins H b ∧ b < s.heap.objs.size) :
    Inv (X.blk s H scope (compEnvC scope (cellsFrom (s.heap.objs.size + 1) scope.names (cloFrom X.env.cells scope.names [])) s.heap.objs.size X.env) fp) [] (wipe σ (own.map (·.2))) H { s with heap := pushCells (s.heap.push { cls := .type "dict", data := .dict #[] }) scope.names } := by
  have hfree : ∀ y ∈ scope.names, y.2 = .free → ∃ c, X.env.cells.lookup y.1 = some c := fun y hy e => by
    rcases ok.free y hy e with k | k
    · exact I.ok.has _ (.inl k)
    · exact I.ok.has _ (.inr k)
  generalize hcenv : compEnvC scope (cellsFrom (s.heap.objs.size + 1) scope.names (cloFrom X.env.cells scope.names [])) s.heap.objs.size X.env = cenv
  have kp : ∀ b o, s.heap.get? b = some o → (pushCells (s.heap.push { cls := .type "dict", data := .dict #[] }) scope.names).get? b = some o := fun b o e => pushCells_keeps _ _ _ _ (Heap.get?_push_of_some _ e)
  have hL : cenv.locals = s.heap.objs.size := by rw [← hcenv]; rfl
  have hcl : cenv.cells = cellsFrom (s.heap.objs.size + 1) scope.names (cloFrom X.env.cells scope.names []) := by rw [← hcenv]; rfl
  have hsc : cenv.scope = relS scope X.env.scope := by rw [← hcenv]; rfl
  rw [← Heap.size_push s.heap { cls := .type "dict", data := .dict #[] }] at hcl
  have cm : ∀ {y c}, (y, c) ∈ cloFrom X.env.cells scope.names [] → X.env.cells.lookup y = some c ∧ c < s.heap.objs.size := fun {y c} hm => by
    rcases cloFrom_mem hm with hm | ⟨h1, rfl⟩
    · cases hm
    · obtain ⟨c, hc⟩ := hfree _ h1 rfl
      rw [hc]
      obtain ⟨w, z⟩ := I.cell _ _ hc
      exact ⟨rfl, z.lt⟩
  have mem : ∀ {y c}, cenv.cells.lookup y = some c → (X.env.cells.lookup y = some c ∧ c < s.heap.objs.size) ∨ (s.heap.objs.size + 1 ≤ c ∧ CellAt (pushCells (s.heap.push { cls := .type "dict", data := .dict #[] }) scope.names) c none) := fun {y c} e => by
    rw [hcl] at e
    rcases cells_mem (PySem.mem_of_lookup e) with hm | ⟨_, h2, h3⟩
    · exact .inl (cm hm)
    · rw [Heap.size_push] at h2; exact .inr ⟨h2, h3⟩
  have look : ∀ {y}, scope.names.lookup y = some .free → ∃ c, cenv.cells.lookup y = some c ∧ X.env.cells.lookup y = some c := fun {y} hl => by
    have hy : (y, NameKind.free) ∈ scope.names := PySem.mem_of_lookup hl
    obtain ⟨c', e'⟩ := mem_lookup (cells_acc (names := scope.names) (n := (s.heap.push { cls := .type "dict", data := .dict #[] }).objs.size) (cloFrom_has (cells := X.env.cells) (acc := []) hy))
    rw [← hcl] at e'
    refine ⟨c', e', ?_⟩
    rw [hcl] at e'
    rcases cells_mem (PySem.mem_of_lookup e') with hm | ⟨h1, _, _⟩
    · exact (cm hm).1
    · have := ok.uniq _ h1
      rw [hl] at this; cases this
  have okB : (X.blk s H scope cenv fp).Ok := by
    refine ⟨I.ok.mod, by show cenv.scope.kind = _; rw [hsc]; exact ok.kind, by show cenv.globals = _; rw [← hcenv]; exact I.ok.glob, by show cenv.builtins = _; rw [← hcenv]; exact I.ok.blt, by show s.heap.objs.size ≤ cenv.locals; rw [hL]; exact Nat.le_refl _,
      fun y z c e1 e2 => ?_, fun y hy => ?_, fun y c z e => ?_, I.ok.hd, I.ok.frames, .inl rfl, fun b hb => ⟨?_, fun y c e z => ?_⟩, I.bs, Nat.le_trans I.ok.bsz I.sz, fun b o e hb => ?_, fun b hb z => ?_, I.stack, I.stkFree⟩
    · have e1 : cenv.cells.lookup y = some c := e1
      have e2 : cenv.cells.lookup z = some c := e2
      rw [hcl] at e1 e2
      refine cells_inj (fun p hp => ?_) (fun y z c a b => I.ok.inj y z c (cm a).1 (cm b).1) (PySem.mem_of_lookup e1) (PySem.mem_of_lookup e2)
      rw [Heap.size_push]
      exact Nat.lt_succ_of_lt (cm (y := p.1) (c := p.2) hp).2
    · show ∃ c, cenv.cells.lookup y = some c
      have key : ∀ k, cenv.kindOf y = some k → (k = .cell ∨ k = .free) → ∃ c, cenv.cells.lookup y = some c := fun k hk hk' => by
        unfold Env.kindOf at hk
        rw [hsc] at hk
        obtain ⟨k', e, r⟩ := lookup_relS hk
        have : k' = .cell ∨ k' = .free := by
          rcases r with rfl | ⟨rfl, _⟩
          · exact hk'
          · exact .inr rfl
        rcases this with rfl | rfl
        · obtain ⟨c, hm⟩ := cells_has (n := (s.heap.push { cls := .type "dict", data := .dict #[] }).objs.size) (acc := cloFrom X.env.cells scope.names []) (PySem.mem_of_lookup e)
          obtain ⟨c', e'⟩ := mem_lookup hm
          exact ⟨c', by rw [hcl]; exact e'⟩
        · obtain ⟨c, h1, _⟩ := look e
          exact ⟨c, h1⟩
      rcases hy with hy | hy
      · exact key _ hy (.inl rfl)
      · exact key _ hy (.inr rfl)
    · have z : (scope.names.lookup y == some NameKind.cell) = true := z
      have z : scope.names.lookup y = some .cell := by simpa using z
      have e : cenv.cells.lookup y = some c := e
      rw [hcl] at e
      rcases cells_mem (PySem.mem_of_lookup e) with hm | ⟨_, h2, _⟩
      · rcases cloFrom_mem hm with hm | ⟨h1, _⟩
        · cases hm
        · have q := ok.uniq _ h1
          rw [z] at q; cases q
      · rw [Heap.size_push] at h2
        exact Nat.le_of_succ_le h2
    · show b ≠ cenv.locals
      rw [hL]; exact Nat.ne_of_lt (hfp b hb).2
    · have e : cenv.cells.lookup y = some c := e
      rcases mem e with ⟨h1, _⟩ | ⟨h1, _⟩
      · exact (hfp b hb).1.2.2.2.2.1 y c h1 z
      · have h2 : s.heap.objs.size + 1 ≤ b := by rw [← z]; exact h1
        exact absurd (Nat.lt_of_lt_of_le (hfp b hb).2 (Nat.le_of_succ_le h2)) (Nat.lt_irrefl _)
    · rcases (hfp b hb).1.2.2.2.1 with z | z
      · exact I.ok.noex b o e z
      · exact absurd (Nat.lt_of_lt_of_le (Heap.lt_size e) (Nat.le_trans I.ok.bsz z)) (Nat.lt_irrefl _)
    · rcases List.mem_cons.mp (I.stkSub b z) with z | z
      · exact (hfp b hb).1.2.1 z
      · exact (hfp b hb).1.2.2.1 z
  refine ⟨okB, rfl, I.bare, Un.kept kp, ⟨fun _ => none, ?_, fun i y av e1 e2 e3 => ?_⟩, fun y c e => ?_, ?_, fun y c e => ?_, fun p hp => ?_, I.hok.kept kp, by rw [wipe_length]; exact I.len⟩
  · show Heap.Ns _ cenv.locals _
    rw [hL]
    exact Heap.Ns.keeps (Heap.Ns.new ..) fun b o e => pushCells_keeps _ _ _ _ e
  · obtain ⟨e2, hne⟩ := wipe_some e2
    have hfr : scope.names.lookup y = some .free ∧ (cenv.kindOf y = some .cell ∨ cenv.kindOf y = some .free) := by
      have key : ∀ k, cenv.scope.names.lookup y = some k → k = .local ∨ k = .cell ∨ k = .free → scope.names.lookup y = some .free ∧ (cenv.kindOf y = some .cell ∨ cenv.kindOf y = some .free) := fun k hk hk' => by
        have hk0 := hk
        rw [hsc] at hk
        obtain ⟨k', e, r⟩ := lookup_relS hk
        have no : ¬ (k' = .local ∨ k' = .cell) := fun hh => by
          rcases ok.own _ (PySem.mem_of_lookup e) hh with e' | e'
          · obtain ⟨p, hp, hpy⟩ := List.mem_map.mp e'
            have e3 := ok.ix p hp
            have : p.1 = y := hpy
            rw [this] at e3
            exact hne (List.mem_map.mpr ⟨p, hp, nodup_ix hN e3 e1⟩)
          · exact e' (List.mem_of_getElem? e1)
        rcases r with rfl | ⟨rfl, rfl⟩
        · rcases hk' with rfl | rfl | rfl
          · exact absurd (.inl rfl) no
          · exact absurd (.inr rfl) no
          · exact ⟨e, .inr hk0⟩
        · exact ⟨e, .inl hk0⟩
      have e3 : Vis cenv.scope y := e3
      rcases e3 with e3 | e3 | e3
      · exact key _ e3 (.inl rfl)
      · exact key _ e3 (.inr (.inl rfl))
      · exact key _ e3 (.inr (.inr rfl))
    obtain ⟨m, hn, hl⟩ := I.loc
    have hvis : Vis X.env.scope y := (ok.free _ (PySem.mem_of_lookup hfr.1) rfl).elim (fun k => .inr (.inl k)) (fun k => .inr (.inr k))
    obtain ⟨w, r, q⟩ := hl i y av e1 e2 hvis
    refine ⟨w, r, .inr ⟨hfr.2, ?_⟩⟩
    obtain ⟨c, h1, h2⟩ := look hfr.1
    rcases q with ⟨k, _⟩ | ⟨_, c', e', z⟩
    · have k : X.env.scope.names.lookup y = some .local := k
      rcases ok.free _ (PySem.mem_of_lookup hfr.1) rfl with k' | k' <;> rw [show X.env.scope.names.lookup y = _ from k'] at k <;> cases k
    · rw [h2] at e'; cases e'
      exact ⟨c, h1, z.keeps kp⟩
  · have e : cenv.cells.lookup y = some c := e
    rcases mem e with ⟨h1, _⟩ | ⟨_, z⟩
    · obtain ⟨w, z⟩ := I.cell y c h1
      exact ⟨w, z.keeps kp⟩
    · exact ⟨_, z⟩
  · show H cenv.locals = none
    rw [hL]; exact I.hok.fresh (Nat.le_refl _)
  · have e : cenv.cells.lookup y = some c := e
    rcases mem e with ⟨h1, _⟩ | ⟨h1, _⟩
    · exact I.freeC y c h1
    · exact I.hok.fresh (Nat.le_of_succ_le h1)
  · exact absurd (show p ∈ ([] : List (Addr × Obj)) ++ [] from hp) (by simp)

/-- an item appended to a tracked list -/
theorem app_ok {E : Value → Shared → Prop} {D : Addr} {xs : List V} {y : V} {v : Value} {Q : Value → Shared → Prop} (I : Inv X pins σ H s) (hD : H D = some (.lst xs)) (hz : xs.length < sizeLine) (r : RelV y v)
    (h : ∀ s', Inv X pins σ (upd H D (.lst (xs ++ [y]))) s' → Q .none s') : wpAny (model X.prog X.w) X.A (call (.builtin "list.append") [.ref D, v]) Q E s := by
  obtain ⟨hz', its, n, ri, e⟩ := I.hok D _ hD
  have hl := ri.length
  refine append_at (hsz := by rw [List.size_toArray]; omega) e fun h' sb ho' => ?_
  refine h { s with heap := h' } (I.write (t' := s.toks) (by rw [hD]; trivial) (.inl rfl) (fun b u hb q => (sb.2 b hb).trans q) ⟨_, ho'⟩ ⟨by rw [List.length_append]; exact hz, its ++ [v], n + 1, ri.append (.cons r .nil), ?_⟩)
  rw [ho']
  simp

/-- a clause's tests -/
def PTs (X : Cx) (ifs : List Expr) (t : TT) : Prop :=
  ∀ (pins : List (Addr × Obj)) (s : Shared) (σ : St) (H : Hp) (Q : Bool → Hp → Prop), Inv X pins σ H s → t σ H Q →
    wpAny (model X.prog X.w) X.A (forIn ifs true fun c r => if r = true then do let ok ← isTrue c X.env (eval c X.env); pure (ForInStep.yield ok) else pure (ForInStep.yield r)) (TP X pins σ Q) X.xe s
def tYes : TT := fun _ H Q => Q true H
theorem pts_nil : PTs X [] tYes := fun _ _ _ H _ I h => wpAny_tests_nil ⟨H, I, h⟩
theorem pts_one {c : Expr} {t : TT} (h : PT X c t) : PTs X [c] t := fun pins s σ H Q I hw => wpAny_tests_one (h pins s σ H Q I hw)
end

theorem thnF {α : Type} {t : Sem α} {Q Q' : α → Shared → Prop} {M : Model} {A : Around} {E : Value → Shared → Prop} {s : Shared} (h : wpAny M A t Q (fun _ _ => False) s) (hQ : ∀ a s, Q a s → Q' a s) : wpAny M A t Q' E s := wpAny_mono h hQ fun _ _ z => False.elim z

/-- the loop of a list comprehension's block, the target of any form (codeAny_compLoop_tests asks a target that no tuple goes to; statement and proof follow it, PyProof/CompMap.lean:41-61, with the step letOwnedTupleGo kept) -/
theorem compLoop_any {prog : Program} {w : World} {A : Around} {R : Result → Shared → Prop} {s : Shared} {elt target iter : Expr} {ifs : List Expr} {scope : Scope} {pos : Pos} {it acc : Value} {env : Env} (I : Nat → Shared → Prop)
    (turn : ∀ n s, I n s → wpAny (model prog w) A (pyNext it) (fun r s₁ => match r with
      | none => R (.ok .next) s₁
      | some v => wpAny (model prog w) A (letOwnedTupleGo target it v) (fun _ s₁' => wpAny (model prog w) A (assign target env v) (fun _ s₂ =>
          wpAny (model prog w) A (forIn ifs true fun c r => if r = true then do let ok ← isTrue c env (eval c env); pure (ForInStep.yield ok) else pure (ForInStep.yield r)) (fun ok s₃ =>
            if ok = true then wpAny (model prog w) A (eval elt env) (fun x s₄ =>
              wpAny (model prog w) A (call (.builtin "list.append") [acc, x]) (fun _ s₅ => ∃ m, m < n ∧ I m s₅) (notedBy (model prog w) A env fun e s' => R (.error e) s') s₄) (notedBy (model prog w) A env fun e s' => R (.error e) s') s₃
            else ∃ m, m < n ∧ I m s₃) (notedBy (model prog w) A env fun e s' => R (.error e) s') s₂) (notedBy (model prog w) A env fun e s' => R (.error e) s') s₁') (notedBy (model prog w) A env fun e s' => R (.error e) s') s₁) (notedBy (model prog w) A env fun e s' => R (.error e) s') s)
    (n : Nat) (h : I n s) :
    codeAny (model prog w) A (.compLoop (.ListComp elt [⟨target, iter, ifs, 0⟩] scope pos) 0 it acc env) R s := by
  refine codeAny_loop rfl I (fun n s hI => ?_) n h
  show wpAny _ A ((compTurn (.ListComp elt [⟨target, iter, ifs, 0⟩] scope pos) 0 it acc env).onRaise (fun x => do noteFrame x env; theTreesLotGoes x)) _ _ s
  refine wpAny_noted ?_
  rw [compTurn_list]
  refine wpAny_bind (wpAny_standAt (wpAny_bind (wpAny_mono (turn n s hI) (fun r s₁ h₁ => ?_) fun _ _ h' => h')))
  cases r with
  | none => exact wpAny_pure h₁
  | some v =>
    refine wpAny_bind (wpAny_mono h₁ (fun _ s₁' h₁' => ?_) fun _ _ h' => h')
    refine wpAny_bind (wpAny_mono h₁' (fun _ s₂ h₂ => wpAny_bind (wpAny_mono h₂ (fun ok s₃ h₃ => ?_) fun _ _ h' => h')) fun _ _ h' => h')
    cases ok with
    | false => exact wpAny_pure ⟨rfl, h₃⟩
    | true =>
      exact wpAny_bind (wpAny_bind (wpAny_mono h₃ (fun x s₄ h₄ => wpAny_bind (wpAny_mono h₄ (fun _ s₅ h₅ => wpAny_pure (wpAny_pure ⟨rfl, h₅⟩)) fun _ _ h' => h')) fun _ _ h' => h'))

section
variable {X : Cx}
/-- [elt for target in iter if ..]: D the new list; W by the turn and a measure, Nx what a turn is to reach -/
def tLc (wi : TI) (g : TG) (tt : TT) (te : TE) (vs : List Nat) : TE := fun σ H Q => wi σ H fun J H1 => ∀ D, H1 D = none → ∃ W : Nat → Nat → Hp → Prop, (∃ m, W 0 m (upd H1 D (.lst []))) ∧ ∀ i m H, W i m H →
  (J.stop i H ∧ Q (.ref D) H) ∨ (J.go i H ∧ ∃ Nx : Hp → Prop, (∀ H', Nx H' → ∃ m', m' < m ∧ W (i + 1) m' H') ∧ ∀ x H', J.yld i H x H' → g x (wipe σ vs) H' fun σ2 H2 => wipe σ2 vs = wipe σ vs ∧ tt σ2 H2 fun b H3 =>
    if b = true then te σ2 H3 fun y H4 => ∃ acc, H4 D = some (.lst acc) ∧ acc.length < sizeLine ∧ Nx (upd H4 D (.lst (acc ++ [y]))) else Nx H3)
theorem lc_core {pins : List (Addr × Obj)} {s : Shared} {σ : St} {H : Hp} {Q : VK} {elt tg iter : Expr} {ifs : List Expr} {scope : Scope} {own : List (Str × Nat)} {pos pos' : Pos} {wi : TI} {g : TG} {tt : TT} {te : TE} {use : Option (Value → Sem Unit)} {Qf : Value → Shared → Prop}
    (hc : X.calm = true) (hN : X.N.Nodup) (I : Inv X pins σ H s) (hi : PI X tg iter wi) (ok : BlkOk X.N X.env.scope scope own)
    (hg : ∀ (s : Shared) (H : Hp) (C : Addr) (cl : List (Str × Addr)) (fp : List Addr), PG (X.blk s H scope (compEnvC scope cl C X.env) fp) tg g) (ht : ∀ (s : Shared) (H : Hp) (C : Addr) (cl : List (Str × Addr)) (fp : List Addr), PTs (X.blk s H scope (compEnvC scope cl C X.env) fp) ifs tt)
    (he : ∀ (s : Shared) (H : Hp) (C : Addr) (cl : List (Str × Addr)) (fp : List Addr), PE (X.blk s H scope (compEnvC scope cl C X.env) fp) elt te) (hs : ∀ x, foldedSetIterable iter X.env x = pure x)
    (h : tLc wi g tt te (own.map (·.2)) σ H Q)
    (hRR : ∀ D C s' m H', Inv X pins σ H' s' → Q (.ref D) H' → s'.heap.Ns C m → FpOk X pins H' C → compPost (model X.prog X.w) X.A X.xe use Qf (.ref D) C (.ok .next) s') :
    wpAny (model X.prog X.w) X.A (comprehension (.ListComp elt [⟨tg, iter, ifs, 0⟩] scope pos) scope X.env pos' (newList []) false (eval iter X.env) use) Qf X.xe s := by
  have hfree : ∀ y ∈ scope.names, y.2 = .free → ∃ c, X.env.cells.lookup y.1 = some c := fun y hy e => by
    rcases ok.free y hy e with k | k
    · exact I.ok.has _ (.inl k)
    · exact I.ok.has _ (.inr k)
  refine wpAny_comprehension_free (use := use) rfl hs (closure_ok hfree) ok.kind (fun y hy e => by rw [ok.uniq y hy, e])
    (thn (hi pins s σ H _ I h) fun xv s1 hx => thn hx fun itv s2 h2 => ?_)
  obtain ⟨it, fp, tn, J, H2, e, I2, T, st2, f2, q⟩ := h2
  subst e
  refine wpAny_newObj_type (newEnv_comp ?_) (by show 0 ≤ sizeLine; decide)
  generalize hD : s2.heap.objs.size = D
  have hDn : H2 D = none := I2.hok.fresh (Nat.le_of_eq hD)
  obtain ⟨W, ⟨m0, w0⟩, turn⟩ := q D hDn
  -- the new list
  generalize hs3 : ({ s2 with heap := s2.heap.push { cls := .type "list", data := .seq ([] : List Value).toArray } } : Shared) = s3
  have I3 : Inv X pins σ (upd H2 D (.lst [])) s3 := by
    rw [← hs3]
    refine I2.laid (t' := s2.toks) (fun b o e => Heap.get?_push_of_some _ e) (Nat.le_of_eq hD) ⟨Nat.zero_le _, [], 0, .nil, ?_⟩
    rw [← hD]
    exact Heap.get?_push_size _ rfl
  have h3 : s3.heap = s2.heap.push { cls := .type "list", data := .seq ([] : List Value).toArray } := by rw [← hs3]
  have sz : ∀ b ∈ fp, b < s2.heap.objs.size := fun b hb => by
    obtain ⟨o, e, _⟩ := T.obj _ _ st2 b hb
    exact Heap.lt_size e
  have f3 : ∀ b ∈ fp, FpOk X pins (upd H2 D (.lst [])) b ∧ b < s3.heap.objs.size := fun b hb => by
    have hlt := sz b hb
    refine ⟨⟨?_, (f2 b hb).2⟩, by rw [h3, Heap.size_push]; exact Nat.lt_succ_of_lt hlt⟩
    rw [upd_ne (by rw [← hD]; exact Nat.ne_of_lt hlt)]
    exact (f2 b hb).1
  have st3 : tn 0 s3.heap := T.keep _ _ _ st2 fun b _ o e => by rw [h3]; exact Heap.get?_push_of_some _ e
  have I4 := block_start I3 ok hN f3
  have pg := hg s3 (upd H2 D (.lst [])) s3.heap.objs.size (cellsFrom (s3.heap.objs.size + 1) scope.names (cloFrom X.env.cells scope.names [])) fp
  have pt := ht s3 (upd H2 D (.lst [])) s3.heap.objs.size (cellsFrom (s3.heap.objs.size + 1) scope.names (cloFrom X.env.cells scope.names [])) fp
  have pe := he s3 (upd H2 D (.lst [])) s3.heap.objs.size (cellsFrom (s3.heap.objs.size + 1) scope.names (cloFrom X.env.cells scope.names [])) fp
  show codeAny _ _ (.compStart (.ListComp elt [⟨tg, iter, ifs, 0⟩] scope pos) 0 (.ref it) (.ref D) (compEnvC scope (cellsFrom (s3.heap.objs.size + 1) scope.names (cloFrom X.env.cells scope.names [])) s3.heap.objs.size X.env)) (compPost (model X.prog X.w) X.A X.xe use Qf (.ref D) s3.heap.objs.size) { s3 with heap := pushCells (s3.heap.push { cls := .type "dict", data := .dict #[] }) scope.names }
  have nfp : ∀ b ∈ fp, (upd H2 D (.lst [])) b = none := fun b hb => (f3 b hb).1.1
  generalize hce : compEnvC scope (cellsFrom (s3.heap.objs.size + 1) scope.names (cloFrom X.env.cells scope.names [])) s3.heap.objs.size X.env = ce at I4 pg pt pe ⊢
  have cL : ce.locals = s3.heap.objs.size := by subst hce; rfl
  generalize hH3 : upd H2 D (.lst []) = H3 at I3 I4 pg pt pe w0 nfp f3
  generalize hs4 : ({ s3 with heap := pushCells (s3.heap.push { cls := .type "dict", data := .dict #[] }) scope.names } : Shared) = s4 at I4 ⊢
  have st4 : tn 0 s4.heap := T.keep _ _ _ st3 fun b _ o e => by rw [← hs4]; exact pushCells_keeps _ _ _ _ (Heap.get?_push_of_some _ e)
  have stat : ∀ {σ' : St} {H' : Hp} {s' : Shared}, Inv (X.blk s3 H3 scope ce fp) [] σ' H' s' → (∀ b ∈ fp, H' b = none) → ∀ b ∈ fp, FpOk (X.blk s3 H3 scope ce fp) [] H' b := fun {σ' H' s'} I' hn b hb =>
    ⟨hn b hb, (I'.ok.exf b hb).1, I'.ok.exfs b hb, .inl hb, fun x c e => (I'.ok.exf b hb).2 x c e, fun p hp => absurd (show p ∈ ([] : List (Addr × Obj)) ++ [] from hp) (by simp)⟩
  have loop : codeAny (model X.prog X.w) X.A (.compLoop (.ListComp elt [⟨tg, iter, ifs, 0⟩] scope pos) 0 (.ref it) (.ref D) ce) (compPost (model X.prog X.w) X.A X.xe use Qf (.ref D) s3.heap.objs.size) s4 := by
    refine compLoop_any (fun n s' => ∃ i H', Inv (X.blk s3 H3 scope ce fp) [] (wipe σ (own.map (·.2))) H' s' ∧ tn i s'.heap ∧ (∀ b ∈ fp, H' b = none) ∧ W i n H') ?_ m0 ⟨0, H3, I4, st4, nfp, w0⟩
    rintro n s5 ⟨i, H5, I5, st5, n5, w5⟩
    rcases turn i n H5 w5 with ⟨stop, qq⟩ | ⟨go, Nx, hNx, step⟩
    · have td := T.done (X.blk s3 H3 scope ce fp) rfl rfl rfl hc i [] s5 _ H5 (fun _ _ => False) I5 (stat I5 n5) st5 stop
      refine thnF td fun r s6 ⟨hr, I6⟩ => ?_
      subst hr
      -- back in the def's context
      have I7 : Inv X pins σ H5 s6 := I3.call' (ch := fp) I6.os I6.base I6.hok I6.bare fun b hb => ⟨(f3 b hb).1.2.2.2.1, (f3 b hb).1.2.1, (f3 b hb).1.2.2.2.2.1, (f3 b hb).1.2.2.2.2.2⟩
      have nC : H5 s3.heap.objs.size = none := by
        have z : H5 ce.locals = none := I6.free
        rw [cL] at z
        exact z
      obtain ⟨m, hn, _⟩ := I6.loc
      have hn : s6.heap.Ns ce.locals m := hn
      rw [cL] at hn
      exact hRR D s3.heap.objs.size s6 m H5 I7 qq hn (I3.fpOk (Nat.le_refl _) nC)
    · have ti := T.item (X.blk s3 H3 scope ce fp) rfl rfl rfl hc i [] s5 _ H5 (fun _ _ => False) I5 (stat I5 n5) st5 go
      refine thnF ti fun r s6 ⟨u, hr, h6⟩ => ?_
      subst hr
      refine thnF h6 fun _ s7 ⟨x, H7, I7, r7, y7, st7, n7⟩ => ?_
      have I7' := I7.pinned (stat I7 n7) (T.obj _ _ st7)
      refine thnF (pg _ s7 _ H7 x u _ I7' r7 (step x H7 y7)) fun _ s8 ⟨σ8, H8, I8, hw8, q8⟩ => ?_
      refine thnF (pt _ s8 σ8 H8 _ I8 q8) fun b s9 ⟨H9, I9, q9⟩ => ?_
      -- the turn's end
      have fin : ∀ {s' : Shared} {H' : Hp}, Inv (X.blk s3 H3 scope ce fp) ([] ++ pinsAt fp s7.heap) σ8 H' s' → Nx H' → ∃ m, m < n ∧ ∃ i H', Inv (X.blk s3 H3 scope ce fp) [] (wipe σ (own.map (·.2))) H' s' ∧ tn i s'.heap ∧ (∀ b ∈ fp, H' b = none) ∧ W i m H' := fun {s' H'} I' nx => by
        obtain ⟨m', hm, w'⟩ := hNx H' nx
        have pin' : ∀ b ∈ fp, ∀ o, s7.heap.get? b = some o → s'.heap.get? b = some o ∧ H' b = none := fun b hb o e =>
          let z := I'.pin (b, o) (List.mem_append_right _ (List.mem_append_right _ (mem_pinsAt hb e)))
          ⟨z.1, z.2.1⟩
        have hl : (wipe σ (own.map (·.2))).length = σ8.length := by rw [← hw8, wipe_length]
        refine ⟨m', hm, i + 1, H', (I'.unpinned (pins := [])).weak hl (fun j v e => ?_), T.keep _ _ _ st7 fun b hb o e => (pin' b hb o e).1, fun b hb => ?_, w'⟩
        · rw [← hw8] at e
          exact (wipe_some e).1
        · obtain ⟨o, e, _⟩ := T.obj _ _ st7 b hb
          exact (pin' b hb o e).2
      cases b with
      | false =>
        simp only [Bool.false_eq_true, if_false] at q9 ⊢
        exact fin I9 q9
      | true =>
        simp only [if_true] at q9 ⊢
        refine thnF (pe _ s9 σ8 H9 _ I9 q9) fun z s10 ⟨yv, H10, I10, r10, acc, hD10, hz10, nx⟩ => ?_
        exact app_ok (X := X.blk s3 H3 scope ce fp) I10 hD10 hz10 r10 fun s11 I11 => fin I11 nx
  exact codeAny_compStart_list loop (T.self X.A 0 _ _ _ st4 loop)
/-- as a value -/
theorem pe_lc {elt tg iter : Expr} {ifs : List Expr} {scope : Scope} {own : List (Str × Nat)} {pos : Pos} {wi : TI} {g : TG} {tt : TT} {te : TE} (hc : X.calm = true) (hN : X.N.Nodup) (hi : PI X tg iter wi) (ok : BlkOk X.N X.env.scope scope own)
    (hg : ∀ (s : Shared) (H : Hp) (C : Addr) (cl : List (Str × Addr)) (fp : List Addr), PG (X.blk s H scope (compEnvC scope cl C X.env) fp) tg g) (ht : ∀ (s : Shared) (H : Hp) (C : Addr) (cl : List (Str × Addr)) (fp : List Addr), PTs (X.blk s H scope (compEnvC scope cl C X.env) fp) ifs tt)
    (he : ∀ (s : Shared) (H : Hp) (C : Addr) (cl : List (Str × Addr)) (fp : List Addr), PE (X.blk s H scope (compEnvC scope cl C X.env) fp) elt te) (hs : ∀ x, foldedSetIterable iter X.env x = pure x := by intro _; rfl) :
    PE X (.ListComp elt [⟨tg, iter, ifs, 0⟩] scope pos) (tLc wi g tt te (own.map (·.2))) := by
  intro pins s σ H Q I h
  rw [eval_ListComp]
  refine lc_core hc hN I hi ok hg ht he hs h fun D C s' m H' I' q hn f => ⟨m, hn, fun h'' sb => ?_⟩
  obtain ⟨f0, f1, f2, f3, f4, f5⟩ := f
  exact ⟨.ref D, H', I'.turned (t' := s'.toks) (fun b o hb e => (sb.2 b hb).trans e) f0 f1 f3 f4 f5, rfl, q⟩
/-- name = [..] on one line, the name a local -/
theorem ps_setLc {i : Nat} {y : Str} {py : Pos} {elt tg iter : Expr} {ifs : List Expr} {scope : Scope} {own : List (Str × Nat)} {pos spos : Pos} {wi : TI} {g : TG} {tt : TT} {te : TE} (hc : X.calm = true) (hN : X.N.Nodup) (hy : X.N[i]? = some y) (hyl : X.env.scope.names.lookup y = some .local)
    (hsw : swapsWith (.ListComp elt [⟨tg, iter, ifs, 0⟩] scope pos) (some (.Name y py)) spos.line X.env = pure true) (hi : PI X tg iter wi) (ok : BlkOk X.N X.env.scope scope own)
    (hg : ∀ (s : Shared) (H : Hp) (C : Addr) (cl : List (Str × Addr)) (fp : List Addr), PG (X.blk s H scope (compEnvC scope cl C X.env) fp) tg g) (ht : ∀ (s : Shared) (H : Hp) (C : Addr) (cl : List (Str × Addr)) (fp : List Addr), PTs (X.blk s H scope (compEnvC scope cl C X.env) fp) ifs tt)
    (he : ∀ (s : Shared) (H : Hp) (C : Addr) (cl : List (Str × Addr)) (fp : List Addr), PE (X.blk s H scope (compEnvC scope cl C X.env) fp) elt te) (hs : ∀ x, foldedSetIterable iter X.env x = pure x := by intro _; rfl) :
    PS X (.Assign [.Name y py] (.ListComp elt [⟨tg, iter, ifs, 0⟩] scope pos) spos) (tAsg (tLc wi g tt te (own.map (·.2))) (gName i)) := by
  intro pins s σ H D I h
  rw [exec_Assign_Name_used _ _ _ _ hsw]
  refine wpAny_bind (wpAny_standAt (wpAny_bind ?_))
  show wpAny _ X.A (do let _ ← comprehension (.ListComp elt [⟨tg, iter, ifs, 0⟩] scope pos) scope X.env (firstIterPos [⟨tg, iter, ifs, 0⟩] pos) (newList []) false (eval iter X.env) (some (assign (.Name y py) X.env))) _ _ s
  have h : tLc wi g tt te (own.map (·.2)) σ H (fun x H1 => gName i x σ H1 D.nx) := h
  refine wpAny_bind (thn (lc_core (Qf := fun _ s' => SP X pins D .next s') hc hN I hi ok hg ht he hs h fun L C s' m H' I' q hn f => ?_) fun _ s' hq => wpAny_pure (wpAny_pure hq))
  show wpAny _ _ (assign (.Name y py) X.env (.ref L)) _ _ _
  refine wpAny_assign_Name (store_ok2 (v := V.ref L) I' hN hy (.inl hyl) rfl (fun s2 I2 ⟨a, sb, ha⟩ => ?_) (.inr hyl))
  obtain ⟨f0, f1, f2, f3, f4, f5⟩ := f
  have haC : C ≠ a := by
    rcases ha with z | z
    · rw [z]; exact f1
    · exact fun e => f4 y a z e.symm
  refine ⟨m, hn.sameBut sb haC, fun h3 sb3 => ?_⟩
  exact ⟨_, H', I2.turned (t' := s2.toks) (fun b o hb e => (sb3.2 b hb).trans e) f0 f1 f3 f4 f5, q⟩
theorem sw_true {elt : Expr} {gs : List Comprehension} {scope : Scope} {pos py : Pos} {y : Str} {l : Nat} {env : Env} (hk : env.scope.kind = .function) (hy : env.scope.names.lookup y = some .local) (hl : (py.line == pos.line) = true)
    (ha : (scope.names.any fun (n, k) => n == y && (k == .local || k == .cell)) = false) : swapsWith (.ListComp elt gs scope pos) (some (.Name y py)) l env = pure true := by
  have ky : env.kindOf y = some .local := hy
  have hb : env.blockKind = .function := by unfold Env.blockKind; rw [hk]; rfl
  unfold swapsWith
  simp only [hb, ky, ha, Expr.pos, hl]
  rfl
end

/-! ### the forms one uses -/
/-- over a range: Pv by the turn and the heap (the new list at D within) -/
theorem lc_range {lo : Int} {n : Nat} {g : TG} {tt : TT} {te : TE} {vs : List Nat} {σ : St} {H1 : Hp} {D : Addr} {Qd : Hp → Prop} (Pv : Nat → Hp → Prop) (h0 : Pv 0 (upd H1 D (.lst [])))
    (hs : ∀ i H, i < n → Pv i H → g (.int (lo + i)) (wipe σ vs) H fun σ2 H2 => wipe σ2 vs = wipe σ vs ∧ tt σ2 H2 fun b H3 =>
      if b = true then te σ2 H3 fun y H4 => ∃ acc, H4 D = some (.lst acc) ∧ acc.length < sizeLine ∧ Pv (i + 1) (upd H4 D (.lst (acc ++ [y]))) else Pv (i + 1) H3) (hd : ∀ H, Pv n H → Qd H) :
    ∃ W : Nat → Nat → Hp → Prop, (∃ m, W 0 m (upd H1 D (.lst []))) ∧ ∀ i m H, W i m H →
      ((Itr lo n).stop i H ∧ Qd H) ∨ ((Itr lo n).go i H ∧ ∃ Nx : Hp → Prop, (∀ H', Nx H' → ∃ m', m' < m ∧ W (i + 1) m' H') ∧ ∀ x H', (Itr lo n).yld i H x H' → g x (wipe σ vs) H' fun σ2 H2 => wipe σ2 vs = wipe σ vs ∧ tt σ2 H2 fun b H3 =>
        if b = true then te σ2 H3 fun y H4 => ∃ acc, H4 D = some (.lst acc) ∧ acc.length < sizeLine ∧ Nx (upd H4 D (.lst (acc ++ [y]))) else Nx H3) := by
  refine ⟨fun i m H => m = n - i ∧ i ≤ n ∧ Pv i H, ⟨n, by simp, Nat.zero_le _, h0⟩, ?_⟩
  rintro i m H ⟨rfl, hi, p⟩
  by_cases hlt : i < n
  · refine .inr ⟨hlt, Pv (i + 1), fun H' p' => ⟨n - (i + 1), by omega, rfl, hlt, p'⟩, fun x H' y => ?_⟩
    obtain ⟨e, y⟩ := y
    subst e y
    exact hs i _ hlt p
  · have e : i = n := by omega
    subst e
    exact .inl ⟨Nat.le_refl _, hd H p⟩
/-- over a list that the block leaves as it is -/
theorem lc_list {K : PySem.W.Frag} {a : Addr} {xs : List V} {g : TG} {tt : TT} {te : TE} {vs : List Nat} {σ : St} {H1 : Hp} {D : Addr} {Qd : Hp → Prop} (Pv : Nat → Hp → Prop) (h0 : Pv 0 (upd H1 D (.lst []))) (hl : ∀ i H, i ≤ xs.length → Pv i H → SqL K H a xs)
    (hs : ∀ i x H, xs[i]? = some x → Pv i H → g x (wipe σ vs) H fun σ2 H2 => wipe σ2 vs = wipe σ vs ∧ tt σ2 H2 fun b H3 =>
      if b = true then te σ2 H3 fun y H4 => ∃ acc, H4 D = some (.lst acc) ∧ acc.length < sizeLine ∧ Pv (i + 1) (upd H4 D (.lst (acc ++ [y]))) else Pv (i + 1) H3) (hd : ∀ H, Pv xs.length H → Qd H) :
    ∃ W : Nat → Nat → Hp → Prop, (∃ m, W 0 m (upd H1 D (.lst []))) ∧ ∀ i m H, W i m H →
      ((Itl K a).stop i H ∧ Qd H) ∨ ((Itl K a).go i H ∧ ∃ Nx : Hp → Prop, (∀ H', Nx H' → ∃ m', m' < m ∧ W (i + 1) m' H') ∧ ∀ x H', (Itl K a).yld i H x H' → g x (wipe σ vs) H' fun σ2 H2 => wipe σ2 vs = wipe σ vs ∧ tt σ2 H2 fun b H3 =>
        if b = true then te σ2 H3 fun y H4 => ∃ acc, H4 D = some (.lst acc) ∧ acc.length < sizeLine ∧ Nx (upd H4 D (.lst (acc ++ [y]))) else Nx H3) := by
  refine ⟨fun i m H => m = xs.length - i ∧ i ≤ xs.length ∧ Pv i H, ⟨xs.length, by simp, Nat.zero_le _, h0⟩, ?_⟩
  rintro i m H ⟨rfl, hi, p⟩
  have q := hl i H hi p
  by_cases hlt : i < xs.length
  · refine .inr ⟨⟨xs, xs[i], q, by simp [hlt]⟩, Pv (i + 1), fun H' p' => ⟨xs.length - (i + 1), by omega, rfl, hlt, p'⟩, fun x H' y => ?_⟩
    obtain ⟨e, y⟩ := y
    subst e
    exact hs i x _ (y xs q) p
  · have e : i = xs.length := by omega
    subst e
    exact .inl ⟨⟨xs, q, Nat.le_refl _⟩, hd H p⟩
/-- over a tuple -/
theorem lc_tup {K : PySem.W.Frag} {a : Addr} {xs : List V} {g : TG} {tt : TT} {te : TE} {vs : List Nat} {σ : St} {H1 : Hp} {D : Addr} {Qd : Hp → Prop} (Pv : Nat → Hp → Prop) (h0 : Pv 0 (upd H1 D (.lst []))) (hl : ∀ i H, i ≤ xs.length → Pv i H → SqT K H a xs)
    (hs : ∀ i x H, xs[i]? = some x → Pv i H → g x (wipe σ vs) H fun σ2 H2 => wipe σ2 vs = wipe σ vs ∧ tt σ2 H2 fun b H3 =>
      if b = true then te σ2 H3 fun y H4 => ∃ acc, H4 D = some (.lst acc) ∧ acc.length < sizeLine ∧ Pv (i + 1) (upd H4 D (.lst (acc ++ [y]))) else Pv (i + 1) H3) (hd : ∀ H, Pv xs.length H → Qd H) :
    ∃ W : Nat → Nat → Hp → Prop, (∃ m, W 0 m (upd H1 D (.lst []))) ∧ ∀ i m H, W i m H →
      ((Itt K a).stop i H ∧ Qd H) ∨ ((Itt K a).go i H ∧ ∃ Nx : Hp → Prop, (∀ H', Nx H' → ∃ m', m' < m ∧ W (i + 1) m' H') ∧ ∀ x H', (Itt K a).yld i H x H' → g x (wipe σ vs) H' fun σ2 H2 => wipe σ2 vs = wipe σ vs ∧ tt σ2 H2 fun b H3 =>
        if b = true then te σ2 H3 fun y H4 => ∃ acc, H4 D = some (.lst acc) ∧ acc.length < sizeLine ∧ Nx (upd H4 D (.lst (acc ++ [y]))) else Nx H3) := by
  refine ⟨fun i m H => m = xs.length - i ∧ i ≤ xs.length ∧ Pv i H, ⟨xs.length, by simp, Nat.zero_le _, h0⟩, ?_⟩
  rintro i m H ⟨rfl, hi, p⟩
  have q := hl i H hi p
  by_cases hlt : i < xs.length
  · refine .inr ⟨⟨xs, xs[i], q, by simp [hlt]⟩, Pv (i + 1), fun H' p' => ⟨xs.length - (i + 1), by omega, rfl, hlt, p'⟩, fun x H' y => ?_⟩
    obtain ⟨e, y⟩ := y
    subst e
    exact hs i x _ (y xs q) p
  · have e : i = xs.length := by omega
    subst e
    exact .inl ⟨⟨xs, q, Nat.le_refl _⟩, hd H p⟩
def blkC (N : List Str) (sc scope : Scope) (own : List (Str × Nat)) : Bool :=
  (match scope.kind with | .function => true | _ => false) && (scope.names.all fun y => decide (scope.names.lookup y.1 = some y.2)) && (own.all fun p => decide (N[p.2]? = some p.1)) &&
    (scope.names.all fun y => match y.2 with
      | .free => (match sc.names.lookup y.1 with | some .cell => true | some .free => true | _ => false)
      | .local => decide (y.1 ∈ own.map (·.1)) || decide (y.1 ∉ N)
      | .cell => decide (y.1 ∈ own.map (·.1)) || decide (y.1 ∉ N)
      | _ => true)
theorem blkOk_by {N : List Str} {sc scope : Scope} {own : List (Str × Nat)} (h : blkC N sc scope own = true) : BlkOk N sc scope own := by
  unfold blkC at h
  simp only [Bool.and_eq_true, List.all_eq_true, decide_eq_true_eq] at h
  obtain ⟨⟨⟨h1, h2⟩, h3⟩, h4⟩ := h
  refine ⟨?_, h2, h3, fun y hy e => ?_, fun y hy e => ?_⟩
  · split at h1
    · assumption
    · cases h1
  · have q := h4 y hy
    simp only [e] at q
    split at q <;> first | exact .inl (by assumption) | exact .inr (by assumption) | cases q
  · have q := h4 y hy
    rcases e with e | e <;> (simp only [e, Bool.or_eq_true, decide_eq_true_eq] at q; exact q)
end L2

namespace L2
open PySem PySem.Spec PyProof.Rows

theorem compTurn2_out (elt t0 i0 t1 i1 : Expr) (ifs0 ifs1 : List Expr) (scope : Scope) (pos : Pos) (it acc : Value) (env : Env) :
    compTurn (.ListComp elt [⟨t0, i0, ifs0, 0⟩, ⟨t1, i1, ifs1, 0⟩] scope pos) 0 it acc env = (do
      standAt i0.pos
      match ← pyNext it with
      | none => pure (.done .next)
      | some v =>
        letOwnedTupleGo t0 it v
        assign t0 env v
        let mut ok := true
        for c in ifs0 do
          if ok then ok ← isTrue c env (eval c env)
        if ok then
          let x ← eval i1 env
          standAt i1.pos
          let x ← foldedSetIterable i1 env x
          let _ ← runOwn (.compStart (.ListComp elt [⟨t0, i0, ifs0, 0⟩, ⟨t1, i1, ifs1, 0⟩] scope pos) 1 (← holding [x] (pyIter x)) acc env) env
        again (.compLoop (.ListComp elt [⟨t0, i0, ifs0, 0⟩, ⟨t1, i1, ifs1, 0⟩] scope pos) 0 it acc env)) := by rfl
theorem compTurn2_in (elt t0 i0 t1 i1 : Expr) (ifs0 ifs1 : List Expr) (scope : Scope) (pos : Pos) (it acc : Value) (env : Env) :
    compTurn (.ListComp elt [⟨t0, i0, ifs0, 0⟩, ⟨t1, i1, ifs1, 0⟩] scope pos) 1 it acc env = (do
      standAt i1.pos
      match ← pyNext it with
      | none => pure (.done .next)
      | some v =>
        letOwnedTupleGo t1 it v
        assign t1 env v
        let mut ok := true
        for c in ifs1 do
          if ok then ok ← isTrue c env (eval c env)
        if ok then
          (do let _ ← call (.builtin "list.append") [acc, ← eval elt env])
        again (.compLoop (.ListComp elt [⟨t0, i0, ifs0, 0⟩, ⟨t1, i1, ifs1, 0⟩] scope pos) 1 it acc env)) := by rfl

section
variable {prog : Program} {w : World} {A : Around} {R : Result → Shared → Prop} {s : Shared} {elt t0 i0 t1 i1 : Expr} {ifs0 ifs1 : List Expr} {scope : Scope} {pos : Pos} {it acc : Value} {env : Env}
/-- the loop of the first clause -/
theorem compLoop2_out (hs : ∀ x, foldedSetIterable i1 env x = pure x) (I : Nat → Shared → Prop)
    (turn : ∀ n s, I n s → wpAny (model prog w) A (pyNext it) (fun r s₁ => match r with
      | none => R (.ok .next) s₁
      | some v => wpAny (model prog w) A (letOwnedTupleGo t0 it v) (fun _ s₁' => wpAny (model prog w) A (assign t0 env v) (fun _ s₂ =>
          wpAny (model prog w) A (forIn ifs0 true fun c r => if r = true then do let ok ← isTrue c env (eval c env); pure (ForInStep.yield ok) else pure (ForInStep.yield r)) (fun ok s₃ =>
            if ok = true then wpAny (model prog w) A (eval i1 env) (fun x s₄ => wpAny (model prog w) A (pyIter x) (fun it1 s₅ =>
              codeAny (model prog w) A (.compStart (.ListComp elt [⟨t0, i0, ifs0, 0⟩, ⟨t1, i1, ifs1, 0⟩] scope pos) 1 it1 acc env) (fun r s' => match r with
                | .ok _ => ∃ m, m < n ∧ I m s'
                | .error _ => False) s₅) (notedBy (model prog w) A env fun e s' => R (.error e) s') s₄) (notedBy (model prog w) A env fun e s' => R (.error e) s') s₃
            else ∃ m, m < n ∧ I m s₃) (notedBy (model prog w) A env fun e s' => R (.error e) s') s₂) (notedBy (model prog w) A env fun e s' => R (.error e) s') s₁') (notedBy (model prog w) A env fun e s' => R (.error e) s') s₁) (notedBy (model prog w) A env fun e s' => R (.error e) s') s)
    (n : Nat) (h : I n s) :
    codeAny (model prog w) A (.compLoop (.ListComp elt [⟨t0, i0, ifs0, 0⟩, ⟨t1, i1, ifs1, 0⟩] scope pos) 0 it acc env) R s := by
  refine codeAny_loop rfl I (fun n s hI => ?_) n h
  show wpAny _ A ((compTurn (.ListComp elt [⟨t0, i0, ifs0, 0⟩, ⟨t1, i1, ifs1, 0⟩] scope pos) 0 it acc env).onRaise (fun x => do noteFrame x env; theTreesLotGoes x)) _ _ s
  refine wpAny_noted ?_
  rw [compTurn2_out]
  refine wpAny_bind (wpAny_standAt (wpAny_bind (wpAny_mono (turn n s hI) (fun r s₁ h₁ => ?_) fun _ _ h' => h')))
  cases r with
  | none => exact wpAny_pure h₁
  | some v =>
    refine wpAny_bind (wpAny_mono h₁ (fun _ s₁' h₁' => ?_) fun _ _ h' => h')
    refine wpAny_bind (wpAny_mono h₁' (fun _ s₂ h₂ => wpAny_bind (wpAny_mono h₂ (fun ok s₃ h₃ => ?_) fun _ _ h' => h')) fun _ _ h' => h')
    cases ok with
    | false => exact wpAny_pure ⟨rfl, h₃⟩
    | true =>
      refine wpAny_bind (wpAny_mono h₃ (fun x s₄ h₄ => ?_) fun _ _ h' => h')
      refine wpAny_bind (wpAny_standAt (wpAny_bind (wpAny_of_eq (hs x) (wpAny_bind (wpAny_holding (wpAny_mono h₄ (fun it1 s₅ h₅ => ?_) fun _ _ h' => h'))))))
      refine wpAny_bind (wpAny_runOwn ?_)
      rw [Around.mark_none]
      refine codeAny_mono h₅ fun r s' hr => ?_
      cases r with
      | ok f =>
        first
          | exact wpAny_pure ⟨rfl, hr⟩
          | exact wpAny_bind (wpAny_pure (wpAny_pure ⟨rfl, hr⟩))
      | error e => exact hr.elim
/-- the loop of the second -/
theorem compLoop2_in (I : Nat → Shared → Prop)
    (turn : ∀ n s, I n s → wpAny (model prog w) A (pyNext it) (fun r s₁ => match r with
      | none => R (.ok .next) s₁
      | some v => wpAny (model prog w) A (letOwnedTupleGo t1 it v) (fun _ s₁' => wpAny (model prog w) A (assign t1 env v) (fun _ s₂ =>
          wpAny (model prog w) A (forIn ifs1 true fun c r => if r = true then do let ok ← isTrue c env (eval c env); pure (ForInStep.yield ok) else pure (ForInStep.yield r)) (fun ok s₃ =>
            if ok = true then wpAny (model prog w) A (eval elt env) (fun x s₄ =>
              wpAny (model prog w) A (call (.builtin "list.append") [acc, x]) (fun _ s₅ => ∃ m, m < n ∧ I m s₅) (notedBy (model prog w) A env fun e s' => R (.error e) s') s₄) (notedBy (model prog w) A env fun e s' => R (.error e) s') s₃
            else ∃ m, m < n ∧ I m s₃) (notedBy (model prog w) A env fun e s' => R (.error e) s') s₂) (notedBy (model prog w) A env fun e s' => R (.error e) s') s₁') (notedBy (model prog w) A env fun e s' => R (.error e) s') s₁) (notedBy (model prog w) A env fun e s' => R (.error e) s') s)
    (n : Nat) (h : I n s) :
    codeAny (model prog w) A (.compLoop (.ListComp elt [⟨t0, i0, ifs0, 0⟩, ⟨t1, i1, ifs1, 0⟩] scope pos) 1 it acc env) R s := by
  refine codeAny_loop rfl I (fun n s hI => ?_) n h
  show wpAny _ A ((compTurn (.ListComp elt [⟨t0, i0, ifs0, 0⟩, ⟨t1, i1, ifs1, 0⟩] scope pos) 1 it acc env).onRaise (fun x => do noteFrame x env; theTreesLotGoes x)) _ _ s
  refine wpAny_noted ?_
  rw [compTurn2_in]
  refine wpAny_bind (wpAny_standAt (wpAny_bind (wpAny_mono (turn n s hI) (fun r s₁ h₁ => ?_) fun _ _ h' => h')))
  cases r with
  | none => exact wpAny_pure h₁
  | some v =>
    refine wpAny_bind (wpAny_mono h₁ (fun _ s₁' h₁' => ?_) fun _ _ h' => h')
    refine wpAny_bind (wpAny_mono h₁' (fun _ s₂ h₂ => wpAny_bind (wpAny_mono h₂ (fun ok s₃ h₃ => ?_) fun _ _ h' => h')) fun _ _ h' => h')
    cases ok with
    | false => exact wpAny_pure ⟨rfl, h₃⟩
    | true =>
      exact wpAny_bind (wpAny_bind (wpAny_mono h₃ (fun x s₄ h₄ => wpAny_bind (wpAny_mono h₄ (fun _ s₅ h₅ => wpAny_pure (wpAny_pure ⟨rfl, h₅⟩)) fun _ _ h' => h')) fun _ _ h' => h'))
/-- the second clause's start -/
theorem compStart1_ok (h0 : codeAny (model prog w) A (.compLoop (.ListComp elt [⟨t0, i0, ifs0, 0⟩, ⟨t1, i1, ifs1, 0⟩] scope pos) 1 it acc env) R s)
    (h : wpAny (model prog w) A (pyIter it) (fun it' s' => codeAny (model prog w) A (.compLoop (.ListComp elt [⟨t0, i0, ifs0, 0⟩, ⟨t1, i1, ifs1, 0⟩] scope pos) 1 it' acc env) R s')
      (notedBy (model prog w) A env fun x s' => R (.error x) s') s) :
    codeAny (model prog w) A (.compStart (.ListComp elt [⟨t0, i0, ifs0, 0⟩, ⟨t1, i1, ifs1, 0⟩] scope pos) 1 it acc env) R s := by
  refine codeAny_of_tree ?_
  show wpAny _ _ ((compStart (.ListComp elt [⟨t0, i0, ifs0, 0⟩, ⟨t1, i1, ifs1, 0⟩] scope pos) 1 it acc env).onRaise (fun x => do noteFrame x env; standAt theWindowsPlace)) _ _ s
  refine wpAny_notedAt ?_
  unfold compStart
  show wpAny _ _ (ask >>= _) _ _ s
  refine wpAny_bind (wpAny_askSetting (wpAny_ite ?_))
  split
  · first
      | exact wpAny_bind (wpAny_pure (wpAny_pure (And.intro rfl h0)))
      | exact wpAny_pure (And.intro rfl h0)
  · first
      | exact wpAny_bind (wpAny_rule (wpAny_bind (wpAny_standAt (wpAny_bind (wpAny_mono h (fun it' s' h' => wpAny_pure (And.intro rfl h')) fun _ _ x => x)))))
      | (refine wpAny_bind (wpAny_rule ?_); show wpAny _ _ (standAt i1.pos >>= _) _ _ s; exact wpAny_bind (wpAny_standAt (wpAny_bind (wpAny_mono h (fun it' s' h' => wpAny_pure (And.intro rfl h')) fun _ _ x => x))))
end

theorem wipe_out {σ : St} {i : Nat} : ∀ {vs : List Nat}, i ∉ vs → (wipe σ vs)[i]? = σ[i]?
  | [], _ => rfl
  | v :: vs, h => by
    have h1 : v ≠ i := fun e => h (by rw [e]; exact List.mem_cons_self)
    have h2 : i ∉ vs := fun m => h (List.mem_cons_of_mem _ m)
    unfold wipe
    rw [List.getElem?_set_ne h1]
    exact wipe_out h2
section
variable {X : Cx}
/-- [elt for tg in iter if .. for tg1 in iter1 if ..]: behind the first clause's store and tests the second source's own loop, from which Nx is reached. vs: the block's names; vs1: those of the second target -/
def tLc2 (wi : TI) (g : TG) (tt : TT) (wi1 : TI) (g1 : TG) (tt1 : TT) (te : TE) (vs vs1 : List Nat) : TE := fun σ H Q => wi σ H fun J H1 => ∀ D, H1 D = none → ∃ W : Nat → Nat → Hp → Prop, (∃ m, W 0 m (upd H1 D (.lst []))) ∧ ∀ i m H, W i m H →
  (J.stop i H ∧ Q (.ref D) H) ∨ (J.go i H ∧ ∃ Nx : Hp → Prop, (∀ H', Nx H' → ∃ m', m' < m ∧ W (i + 1) m' H') ∧ ∀ x H', J.yld i H x H' → g x (wipe σ vs) H' fun σ2 H2 => wipe σ2 vs = wipe σ vs ∧ tt σ2 H2 fun b H3 =>
    if b = true then wi1 σ2 H3 fun J1 H4 => ∃ W1 : Nat → Nat → Hp → Prop, (∃ m, W1 0 m H4) ∧ ∀ j k H, W1 j k H →
      (J1.stop j H ∧ Nx H) ∨ (J1.go j H ∧ ∃ Nx1 : Hp → Prop, (∀ H', Nx1 H' → ∃ k', k' < k ∧ W1 (j + 1) k' H') ∧ ∀ x H', J1.yld j H x H' → g1 x (wipe σ2 vs1) H' fun σ3 H5 => wipe σ3 vs1 = wipe σ2 vs1 ∧ tt1 σ3 H5 fun b H6 =>
        if b = true then te σ3 H6 fun y H7 => ∃ acc, H7 D = some (.lst acc) ∧ acc.length < sizeLine ∧ Nx1 (upd H7 D (.lst (acc ++ [y]))) else Nx1 H6)
    else Nx H3)
theorem lc2_core {pins : List (Addr × Obj)} {s : Shared} {σ : St} {H : Hp} {Q : VK} {elt tg iter tg1 iter1 : Expr} {ifs ifs1 : List Expr} {scope : Scope} {own : List (Str × Nat)} {vs1 : List Nat} {pos pos' : Pos} {wi wi1 : TI} {g g1 : TG} {tt tt1 : TT} {te : TE} {use : Option (Value → Sem Unit)} {Qf : Value → Shared → Prop}
    (hc : X.calm = true) (hN : X.N.Nodup) (I : Inv X pins σ H s) (hi : PI X tg iter wi) (ok : BlkOk X.N X.env.scope scope own) (hv : ∀ i ∈ vs1, i ∈ own.map (·.2))
    (hg : ∀ (s : Shared) (H : Hp) (C : Addr) (cl : List (Str × Addr)) (fp : List Addr), PG (X.blk s H scope (compEnvC scope cl C X.env) fp) tg g) (ht : ∀ (s : Shared) (H : Hp) (C : Addr) (cl : List (Str × Addr)) (fp : List Addr), PTs (X.blk s H scope (compEnvC scope cl C X.env) fp) ifs tt)
    (he : ∀ (s : Shared) (H : Hp) (C : Addr) (cl : List (Str × Addr)) (fp : List Addr), PE (X.blk s H scope (compEnvC scope cl C X.env) fp) elt te) (hs : ∀ x, foldedSetIterable iter X.env x = pure x)
    (hi1 : ∀ (s : Shared) (H : Hp) (C : Addr) (cl : List (Str × Addr)) (fp : List Addr), PI (X.blk s H scope (compEnvC scope cl C X.env) fp) tg1 iter1 wi1)
    (hg1 : ∀ (s : Shared) (H : Hp) (C : Addr) (cl : List (Str × Addr)) (fp : List Addr), PG (X.blk s H scope (compEnvC scope cl C X.env) fp) tg1 g1)
    (ht1 : ∀ (s : Shared) (H : Hp) (C : Addr) (cl : List (Str × Addr)) (fp : List Addr), PTs (X.blk s H scope (compEnvC scope cl C X.env) fp) ifs1 tt1)
    (hs1 : ∀ env x, foldedSetIterable iter1 env x = pure x)
    (h : tLc2 wi g tt wi1 g1 tt1 te (own.map (·.2)) vs1 σ H Q)
    (hRR : ∀ D C s' m H', Inv X pins σ H' s' → Q (.ref D) H' → s'.heap.Ns C m → FpOk X pins H' C → compPost (model X.prog X.w) X.A X.xe use Qf (.ref D) C (.ok .next) s') :
    wpAny (model X.prog X.w) X.A (comprehension (.ListComp elt [⟨tg, iter, ifs, 0⟩, ⟨tg1, iter1, ifs1, 0⟩] scope pos) scope X.env pos' (newList []) false (eval iter X.env) use) Qf X.xe s := by
  have hfree : ∀ y ∈ scope.names, y.2 = .free → ∃ c, X.env.cells.lookup y.1 = some c := fun y hy e => by
    rcases ok.free y hy e with k | k
    · exact I.ok.has _ (.inl k)
    · exact I.ok.has _ (.inr k)
  refine wpAny_comprehension_free (use := use) rfl hs (closure_ok hfree) ok.kind (fun y hy e => by rw [ok.uniq y hy, e])
    (thn (hi pins s σ H _ I h) fun xv s1 hx => thn hx fun itv s2 h2 => ?_)
  obtain ⟨it, fp, tn, J, H2, e, I2, T, st2, f2, q⟩ := h2
  subst e
  refine wpAny_newObj_type (newEnv_comp ?_) (by show 0 ≤ sizeLine; decide)
  generalize hD : s2.heap.objs.size = D
  have hDn : H2 D = none := I2.hok.fresh (Nat.le_of_eq hD)
  obtain ⟨W, ⟨m0, w0⟩, turn⟩ := q D hDn
  -- the new list
  generalize hs3 : ({ s2 with heap := s2.heap.push { cls := .type "list", data := .seq ([] : List Value).toArray } } : Shared) = s3
  have I3 : Inv X pins σ (upd H2 D (.lst [])) s3 := by
    rw [← hs3]
    refine I2.laid (t' := s2.toks) (fun b o e => Heap.get?_push_of_some _ e) (Nat.le_of_eq hD) ⟨Nat.zero_le _, [], 0, .nil, ?_⟩
    rw [← hD]
    exact Heap.get?_push_size _ rfl
  have h3 : s3.heap = s2.heap.push { cls := .type "list", data := .seq ([] : List Value).toArray } := by rw [← hs3]
  have sz : ∀ b ∈ fp, b < s2.heap.objs.size := fun b hb => by
    obtain ⟨o, e, _⟩ := T.obj _ _ st2 b hb
    exact Heap.lt_size e
  have f3 : ∀ b ∈ fp, FpOk X pins (upd H2 D (.lst [])) b ∧ b < s3.heap.objs.size := fun b hb => by
    have hlt := sz b hb
    refine ⟨⟨?_, (f2 b hb).2⟩, by rw [h3, Heap.size_push]; exact Nat.lt_succ_of_lt hlt⟩
    rw [upd_ne (by rw [← hD]; exact Nat.ne_of_lt hlt)]
    exact (f2 b hb).1
  have st3 : tn 0 s3.heap := T.keep _ _ _ st2 fun b _ o e => by rw [h3]; exact Heap.get?_push_of_some _ e
  have I4 := block_start I3 ok hN f3
  have pg := hg s3 (upd H2 D (.lst [])) s3.heap.objs.size (cellsFrom (s3.heap.objs.size + 1) scope.names (cloFrom X.env.cells scope.names [])) fp
  have pt := ht s3 (upd H2 D (.lst [])) s3.heap.objs.size (cellsFrom (s3.heap.objs.size + 1) scope.names (cloFrom X.env.cells scope.names [])) fp
  have pe := he s3 (upd H2 D (.lst [])) s3.heap.objs.size (cellsFrom (s3.heap.objs.size + 1) scope.names (cloFrom X.env.cells scope.names [])) fp
  have pi1 := hi1 s3 (upd H2 D (.lst [])) s3.heap.objs.size (cellsFrom (s3.heap.objs.size + 1) scope.names (cloFrom X.env.cells scope.names [])) fp
  have pg1 := hg1 s3 (upd H2 D (.lst [])) s3.heap.objs.size (cellsFrom (s3.heap.objs.size + 1) scope.names (cloFrom X.env.cells scope.names [])) fp
  have pt1 := ht1 s3 (upd H2 D (.lst [])) s3.heap.objs.size (cellsFrom (s3.heap.objs.size + 1) scope.names (cloFrom X.env.cells scope.names [])) fp
  show codeAny _ _ (.compStart (.ListComp elt [⟨tg, iter, ifs, 0⟩, ⟨tg1, iter1, ifs1, 0⟩] scope pos) 0 (.ref it) (.ref D) (compEnvC scope (cellsFrom (s3.heap.objs.size + 1) scope.names (cloFrom X.env.cells scope.names [])) s3.heap.objs.size X.env)) (compPost (model X.prog X.w) X.A X.xe use Qf (.ref D) s3.heap.objs.size) { s3 with heap := pushCells (s3.heap.push { cls := .type "dict", data := .dict #[] }) scope.names }
  have nfp : ∀ b ∈ fp, (upd H2 D (.lst [])) b = none := fun b hb => (f3 b hb).1.1
  generalize hce : compEnvC scope (cellsFrom (s3.heap.objs.size + 1) scope.names (cloFrom X.env.cells scope.names [])) s3.heap.objs.size X.env = ce at I4 pg pt pe pi1 pg1 pt1 ⊢
  have cL : ce.locals = s3.heap.objs.size := by subst hce; rfl
  generalize hH3 : upd H2 D (.lst []) = H3 at I3 I4 pg pt pe pi1 pg1 pt1 w0 nfp f3
  generalize hs4 : ({ s3 with heap := pushCells (s3.heap.push { cls := .type "dict", data := .dict #[] }) scope.names } : Shared) = s4 at I4 ⊢
  have st4 : tn 0 s4.heap := T.keep _ _ _ st3 fun b _ o e => by rw [← hs4]; exact pushCells_keeps _ _ _ _ (Heap.get?_push_of_some _ e)
  have stat : ∀ {σ' : St} {H' : Hp} {s' : Shared}, Inv (X.blk s3 H3 scope ce fp) [] σ' H' s' → (∀ b ∈ fp, H' b = none) → ∀ b ∈ fp, FpOk (X.blk s3 H3 scope ce fp) [] H' b := fun {σ' H' s'} I' hn b hb =>
    ⟨hn b hb, (I'.ok.exf b hb).1, I'.ok.exfs b hb, .inl hb, fun x c e => (I'.ok.exf b hb).2 x c e, fun p hp => absurd (show p ∈ ([] : List (Addr × Obj)) ++ [] from hp) (by simp)⟩
  have loop : codeAny (model X.prog X.w) X.A (.compLoop (.ListComp elt [⟨tg, iter, ifs, 0⟩, ⟨tg1, iter1, ifs1, 0⟩] scope pos) 0 (.ref it) (.ref D) ce) (compPost (model X.prog X.w) X.A X.xe use Qf (.ref D) s3.heap.objs.size) s4 := by
    refine compLoop2_out (hs1 ce) (fun n s' => ∃ i H', Inv (X.blk s3 H3 scope ce fp) [] (wipe σ (own.map (·.2))) H' s' ∧ tn i s'.heap ∧ (∀ b ∈ fp, H' b = none) ∧ W i n H') ?_ m0 ⟨0, H3, I4, st4, nfp, w0⟩
    rintro n s5 ⟨i, H5, I5, st5, n5, w5⟩
    rcases turn i n H5 w5 with ⟨stop, qq⟩ | ⟨go, Nx, hNx, step⟩
    · have td := T.done (X.blk s3 H3 scope ce fp) rfl rfl rfl hc i [] s5 _ H5 (fun _ _ => False) I5 (stat I5 n5) st5 stop
      refine thnF td fun r s6 ⟨hr, I6⟩ => ?_
      subst hr
      -- back in the def's context
      have I7 : Inv X pins σ H5 s6 := I3.call' (ch := fp) I6.os I6.base I6.hok I6.bare fun b hb => ⟨(f3 b hb).1.2.2.2.1, (f3 b hb).1.2.1, (f3 b hb).1.2.2.2.2.1, (f3 b hb).1.2.2.2.2.2⟩
      have nC : H5 s3.heap.objs.size = none := by
        have z : H5 ce.locals = none := I6.free
        rw [cL] at z
        exact z
      obtain ⟨m, hn, _⟩ := I6.loc
      have hn : s6.heap.Ns ce.locals m := hn
      rw [cL] at hn
      exact hRR D s3.heap.objs.size s6 m H5 I7 qq hn (I3.fpOk (Nat.le_refl _) nC)
    · have ti := T.item (X.blk s3 H3 scope ce fp) rfl rfl rfl hc i [] s5 _ H5 (fun _ _ => False) I5 (stat I5 n5) st5 go
      refine thnF ti fun r s6 ⟨u, hr, h6⟩ => ?_
      subst hr
      refine thnF h6 fun _ s7 ⟨x, H7, I7, r7, y7, st7, n7⟩ => ?_
      have I7' := I7.pinned (stat I7 n7) (T.obj _ _ st7)
      refine thnF (pg _ s7 _ H7 x u _ I7' r7 (step x H7 y7)) fun _ s8 ⟨σ8, H8, I8, hw8, q8⟩ => ?_
      refine thnF (pt _ s8 σ8 H8 _ I8 q8) fun b s9 ⟨H9, I9, q9⟩ => ?_
      -- the turn's end, from any slots that know what the block knew at its start
      have fin : ∀ {σ9 : St} {s' : Shared} {H' : Hp}, Inv (X.blk s3 H3 scope ce fp) ([] ++ pinsAt fp s7.heap) σ9 H' s' → (wipe σ (own.map (·.2))).length = σ9.length → (∀ (j : Nat) v, (wipe σ (own.map (·.2)))[j]? = some (some v) → σ9[j]? = some (some v)) → Nx H' →
          ∃ m, m < n ∧ ∃ i H', Inv (X.blk s3 H3 scope ce fp) [] (wipe σ (own.map (·.2))) H' s' ∧ tn i s'.heap ∧ (∀ b ∈ fp, H' b = none) ∧ W i m H' := fun {σ9 s' H'} I' hl hk nx => by
        obtain ⟨m', hm, w'⟩ := hNx H' nx
        have pin' : ∀ b ∈ fp, ∀ o, s7.heap.get? b = some o → s'.heap.get? b = some o ∧ H' b = none := fun b hb o e =>
          let z := I'.pin (b, o) (List.mem_append_right _ (List.mem_append_right _ (mem_pinsAt hb e)))
          ⟨z.1, z.2.1⟩
        refine ⟨m', hm, i + 1, H', (I'.unpinned (pins := [])).weak hl hk, T.keep _ _ _ st7 fun b hb o e => (pin' b hb o e).1, fun b hb => ?_, w'⟩
        obtain ⟨o, e, _⟩ := T.obj _ _ st7 b hb
        exact (pin' b hb o e).2
      have hl8 : (wipe σ (own.map (·.2))).length = σ8.length := by rw [← hw8, wipe_length]
      have hk8 : ∀ (j : Nat) v, (wipe σ (own.map (·.2)))[j]? = some (some v) → σ8[j]? = some (some v) := fun j v e => by
        rw [← hw8] at e
        exact (wipe_some e).1
      have hk9 : ∀ (j : Nat) v, (wipe σ (own.map (·.2)))[j]? = some (some v) → (wipe σ8 vs1)[j]? = some (some v) := fun j v e => by
        rw [← hw8] at e
        obtain ⟨e1, e2⟩ := wipe_some e
        rw [wipe_out fun z => e2 (hv j z)]
        exact e1
      cases b with
      | false =>
        simp only [Bool.false_eq_true, if_false] at q9 ⊢
        exact fin I9 hl8 hk8 q9
      | true =>
        simp only [if_true] at q9 ⊢
        refine thnF (pi1 _ s9 σ8 H9 _ I9 q9) fun xv s10 hx => thnF hx fun itv s11 h11 => ?_
        obtain ⟨it1, fp1, tn1, J1, H11, e1, I11, T1, st11, f11, W1, ⟨m1, w1⟩, turn1⟩ := h11
        subst e1
        -- the inner loop
        have stat1 : ∀ {H' : Hp}, (∀ b ∈ fp1, H' b = none) → ∀ b ∈ fp1, FpOk (X.blk s3 H3 scope ce fp) ([] ++ pinsAt fp s7.heap) H' b := fun hn b hb => ⟨hn b hb, (f11 b hb).2⟩
        have loop1 : codeAny (model X.prog X.w) X.A (.compLoop (.ListComp elt [⟨tg, iter, ifs, 0⟩, ⟨tg1, iter1, ifs1, 0⟩] scope pos) 1 (.ref it1) (.ref D) ce)
            (fun r s' => match r with
              | .ok _ => ∃ m, m < n ∧ ∃ i H', Inv (X.blk s3 H3 scope ce fp) [] (wipe σ (own.map (·.2))) H' s' ∧ tn i s'.heap ∧ (∀ b ∈ fp, H' b = none) ∧ W i m H'
              | .error _ => False) s11 := by
          refine compLoop2_in (fun k s' => ∃ j H', Inv (X.blk s3 H3 scope ce fp) ([] ++ pinsAt fp s7.heap) (wipe σ8 vs1) H' s' ∧ tn1 j s'.heap ∧ (∀ b ∈ fp1, H' b = none) ∧ W1 j k H') ?_ m1 ⟨0, H11, I11.weak (wipe_length _ _) (fun j v e => (wipe_some e).1), st11, fun b hb => (f11 b hb).1, w1⟩
          rintro k s12 ⟨j, H12, I12, st12, n12, w12⟩
          rcases turn1 j k H12 w12 with ⟨stop1, nx1⟩ | ⟨go1, Nx1, hNx1, step1⟩
          · refine thnF (T1.done (X.blk s3 H3 scope ce fp) rfl rfl rfl hc j _ s12 (wipe σ8 vs1) H12 (fun _ _ => False) I12 (stat1 n12) st12 stop1) fun r s13 ⟨hr, I13⟩ => ?_
            subst hr
            exact fin I13 (hl8.trans (wipe_length σ8 vs1).symm) hk9 nx1
          · refine thnF (T1.item (X.blk s3 H3 scope ce fp) rfl rfl rfl hc j _ s12 (wipe σ8 vs1) H12 (fun _ _ => False) I12 (stat1 n12) st12 go1) fun r s13 ⟨u1, hr, h13⟩ => ?_
            subst hr
            refine thnF h13 fun _ s14 ⟨x1, H14, I14, r14, y14, st14, n14⟩ => ?_
            have I14' := I14.pinned (stat1 n14) (T1.obj _ _ st14)
            refine thnF (pg1 _ s14 (wipe σ8 vs1) H14 x1 u1 _ I14' r14 (step1 x1 H14 y14)) fun _ s15 ⟨σ15, H15, I15, hw15, q15⟩ => ?_
            refine thnF (pt1 _ s15 σ15 H15 _ I15 q15) fun b1 s16 ⟨H16, I16, q16⟩ => ?_
            have fin1 : ∀ {s' : Shared} {H' : Hp}, Inv (X.blk s3 H3 scope ce fp) (([] ++ pinsAt fp s7.heap) ++ pinsAt fp1 s14.heap) σ15 H' s' → Nx1 H' → ∃ m, m < k ∧ ∃ j H', Inv (X.blk s3 H3 scope ce fp) ([] ++ pinsAt fp s7.heap) (wipe σ8 vs1) H' s' ∧ tn1 j s'.heap ∧ (∀ b ∈ fp1, H' b = none) ∧ W1 j m H' := fun {s' H'} I' nx => by
              obtain ⟨m', hm, w'⟩ := hNx1 H' nx
              have pin' : ∀ b ∈ fp1, ∀ o, s14.heap.get? b = some o → s'.heap.get? b = some o ∧ H' b = none := fun b hb o e =>
                let z := I'.pin (b, o) (List.mem_append_right _ (List.mem_append_right _ (mem_pinsAt hb e)))
                ⟨z.1, z.2.1⟩
              refine ⟨m', hm, j + 1, H', I'.unpinned.weak (by rw [← hw15, wipe_length]) (fun j v e => by rw [← hw15] at e; exact (wipe_some e).1), T1.keep _ _ _ st14 fun b hb o e => (pin' b hb o e).1, fun b hb => ?_, w'⟩
              obtain ⟨o, e, _⟩ := T1.obj _ _ st14 b hb
              exact (pin' b hb o e).2
            cases b1 with
            | false =>
              simp only [Bool.false_eq_true, if_false] at q16 ⊢
              exact fin1 I16 q16
            | true =>
              simp only [if_true] at q16 ⊢
              refine thnF (pe _ s16 σ15 H16 _ I16 q16) fun z s17 ⟨yv, H17, I17, r17, acc, hD17, hz17, nx⟩ => ?_
              exact app_ok (X := X.blk s3 H3 scope ce fp) I17 hD17 hz17 r17 fun s18 I18 => fin1 I18 nx
        exact compStart1_ok loop1 (T1.self X.A 0 _ _ _ st11 loop1)
  exact codeAny_compStart_list loop (T.self X.A 0 _ _ _ st4 loop)
/-- as a value -/
theorem pe_lc2 {elt tg iter tg1 iter1 : Expr} {ifs ifs1 : List Expr} {scope : Scope} {own : List (Str × Nat)} {vs1 : List Nat} {pos : Pos} {wi wi1 : TI} {g g1 : TG} {tt tt1 : TT} {te : TE} (hc : X.calm = true) (hN : X.N.Nodup) (hi : PI X tg iter wi) (ok : BlkOk X.N X.env.scope scope own) (hv : ∀ i ∈ vs1, i ∈ own.map (·.2))
    (hg : ∀ (s : Shared) (H : Hp) (C : Addr) (cl : List (Str × Addr)) (fp : List Addr), PG (X.blk s H scope (compEnvC scope cl C X.env) fp) tg g) (ht : ∀ (s : Shared) (H : Hp) (C : Addr) (cl : List (Str × Addr)) (fp : List Addr), PTs (X.blk s H scope (compEnvC scope cl C X.env) fp) ifs tt)
    (hi1 : ∀ (s : Shared) (H : Hp) (C : Addr) (cl : List (Str × Addr)) (fp : List Addr), PI (X.blk s H scope (compEnvC scope cl C X.env) fp) tg1 iter1 wi1)
    (hg1 : ∀ (s : Shared) (H : Hp) (C : Addr) (cl : List (Str × Addr)) (fp : List Addr), PG (X.blk s H scope (compEnvC scope cl C X.env) fp) tg1 g1) (ht1 : ∀ (s : Shared) (H : Hp) (C : Addr) (cl : List (Str × Addr)) (fp : List Addr), PTs (X.blk s H scope (compEnvC scope cl C X.env) fp) ifs1 tt1)
    (he : ∀ (s : Shared) (H : Hp) (C : Addr) (cl : List (Str × Addr)) (fp : List Addr), PE (X.blk s H scope (compEnvC scope cl C X.env) fp) elt te) (hs : ∀ x, foldedSetIterable iter X.env x = pure x := by intro _; rfl) (hs1 : ∀ env x, foldedSetIterable iter1 env x = pure x := by intro _ _; rfl) :
    PE X (.ListComp elt [⟨tg, iter, ifs, 0⟩, ⟨tg1, iter1, ifs1, 0⟩] scope pos) (tLc2 wi g tt wi1 g1 tt1 te (own.map (·.2)) vs1) := by
  intro pins s σ H Q I h
  rw [eval_ListComp]
  refine lc2_core hc hN I hi ok hv hg ht he hs hi1 hg1 ht1 hs1 h fun D C s' m H' I' q hn f => ⟨m, hn, fun h'' sb => ?_⟩
  obtain ⟨f0, f1, f2, f3, f4, f5⟩ := f
  exact ⟨.ref D, H', I'.turned (t' := s'.toks) (fun b o hb e => (sb.2 b hb).trans e) f0 f1 f3 f4 f5, rfl, q⟩
theorem ps_setLc2 {i : Nat} {y : Str} {py : Pos} {elt tg iter tg1 iter1 : Expr} {ifs ifs1 : List Expr} {scope : Scope} {own : List (Str × Nat)} {vs1 : List Nat} {pos spos : Pos} {wi wi1 : TI} {g g1 : TG} {tt tt1 : TT} {te : TE} (hc : X.calm = true) (hN : X.N.Nodup) (hy : X.N[i]? = some y) (hyl : X.env.scope.names.lookup y = some .local)
    (hsw : swapsWith (.ListComp elt [⟨tg, iter, ifs, 0⟩, ⟨tg1, iter1, ifs1, 0⟩] scope pos) (some (.Name y py)) spos.line X.env = pure true) (hi : PI X tg iter wi) (ok : BlkOk X.N X.env.scope scope own) (hv : ∀ i ∈ vs1, i ∈ own.map (·.2))
    (hg : ∀ (s : Shared) (H : Hp) (C : Addr) (cl : List (Str × Addr)) (fp : List Addr), PG (X.blk s H scope (compEnvC scope cl C X.env) fp) tg g) (ht : ∀ (s : Shared) (H : Hp) (C : Addr) (cl : List (Str × Addr)) (fp : List Addr), PTs (X.blk s H scope (compEnvC scope cl C X.env) fp) ifs tt)
    (hi1 : ∀ (s : Shared) (H : Hp) (C : Addr) (cl : List (Str × Addr)) (fp : List Addr), PI (X.blk s H scope (compEnvC scope cl C X.env) fp) tg1 iter1 wi1)
    (hg1 : ∀ (s : Shared) (H : Hp) (C : Addr) (cl : List (Str × Addr)) (fp : List Addr), PG (X.blk s H scope (compEnvC scope cl C X.env) fp) tg1 g1) (ht1 : ∀ (s : Shared) (H : Hp) (C : Addr) (cl : List (Str × Addr)) (fp : List Addr), PTs (X.blk s H scope (compEnvC scope cl C X.env) fp) ifs1 tt1)
    (he : ∀ (s : Shared) (H : Hp) (C : Addr) (cl : List (Str × Addr)) (fp : List Addr), PE (X.blk s H scope (compEnvC scope cl C X.env) fp) elt te) (hs : ∀ x, foldedSetIterable iter X.env x = pure x := by intro _; rfl) (hs1 : ∀ env x, foldedSetIterable iter1 env x = pure x := by intro _ _; rfl) :
    PS X (.Assign [.Name y py] (.ListComp elt [⟨tg, iter, ifs, 0⟩, ⟨tg1, iter1, ifs1, 0⟩] scope pos) spos) (tAsg (tLc2 wi g tt wi1 g1 tt1 te (own.map (·.2)) vs1) (gName i)) := by
  intro pins s σ H D I h
  rw [exec_Assign_Name_used _ _ _ _ hsw]
  refine wpAny_bind (wpAny_standAt (wpAny_bind ?_))
  show wpAny _ X.A (do let _ ← comprehension (.ListComp elt [⟨tg, iter, ifs, 0⟩, ⟨tg1, iter1, ifs1, 0⟩] scope pos) scope X.env (firstIterPos [⟨tg, iter, ifs, 0⟩, ⟨tg1, iter1, ifs1, 0⟩] pos) (newList []) false (eval iter X.env) (some (assign (.Name y py) X.env))) _ _ s
  have h : tLc2 wi g tt wi1 g1 tt1 te (own.map (·.2)) vs1 σ H (fun x H1 => gName i x σ H1 D.nx) := h
  refine wpAny_bind (thn (lc2_core (Qf := fun _ s' => SP X pins D .next s') hc hN I hi ok hv hg ht he hs hi1 hg1 ht1 hs1 h fun L C s' m H' I' q hn f => ?_) fun _ s' hq => wpAny_pure (wpAny_pure hq))
  show wpAny _ _ (assign (.Name y py) X.env (.ref L)) _ _ _
  refine wpAny_assign_Name (store_ok2 (v := V.ref L) I' hN hy (.inl hyl) rfl (fun s2 I2 ⟨a, sb, ha⟩ => ?_) (.inr hyl))
  obtain ⟨f0, f1, f2, f3, f4, f5⟩ := f
  have haC : C ≠ a := by
    rcases ha with z | z
    · rw [z]; exact f1
    · exact fun e => f4 y a z e.symm
  refine ⟨m, hn.sameBut sb haC, fun h3 sb3 => ?_⟩
  exact ⟨_, H', I2.turned (t' := s2.toks) (fun b o hb e => (sb3.2 b hb).trans e) f0 f1 f3 f4 f5, q⟩
end
end L2

namespace L2
open PySem PySem.Spec PyProof.Rows

/-! ### lists of pairs as tables -/
section
variable {κ : Type} [DecidableEq κ]
def valV (kvs : List (κ × V)) (k : κ) : Option V := (kvs.find? fun kv => decide (kv.1 = k)).map (·.2)
/-- in its place, or at the end -/
def putK (kvs : List (κ × V)) (k : κ) (v : V) : List (κ × V) :=
  if (kvs.any fun kv => decide (kv.1 = k)) = true then kvs.map (fun kv => if kv.1 = k then (kv.1, v) else kv) else kvs ++ [(k, v)]
def dropK (kvs : List (κ × V)) (k : κ) : List (κ × V) := kvs.filter fun kv => decide (kv.1 ≠ k)

theorem valV_nil {k : κ} : valV ([] : List (κ × V)) k = none := rfl
theorem valV_pos {p : κ × V} {r : List (κ × V)} {k : κ} (e : p.1 = k) : valV (p :: r) k = some p.2 := by simp [valV, List.find?_cons, e]
theorem valV_neg {p : κ × V} {r : List (κ × V)} {k : κ} (e : ¬ p.1 = k) : valV (p :: r) k = valV r k := by simp [valV, List.find?_cons, e]
theorem valV_any (k : κ) : ∀ kvs : List (κ × V), (kvs.any fun kv => decide (kv.1 = k)) = (valV kvs k).isSome
  | [] => rfl
  | p :: r => by
    rw [List.any_cons]
    by_cases e : p.1 = k
    · simp only [valV_pos e, decide_eq_true e, Bool.true_or, Option.isSome_some]
    · rw [valV_neg e, decide_eq_false e, Bool.false_or]; exact valV_any k r
theorem valV_map (k j : κ) (y : V) : ∀ kvs : List (κ × V), valV (kvs.map fun kv => if kv.1 = k then (kv.1, y) else kv) j = (valV kvs j).map fun x => if j = k then y else x
  | [] => rfl
  | p :: r => by
    have ih := valV_map k j y r
    rw [List.map_cons]
    by_cases h : p.1 = k
    · rw [if_pos h]
      by_cases e : p.1 = j
      · rw [valV_pos (p := (p.1, y)) e, valV_pos e, Option.map_some, if_pos (e.symm.trans h)]
      · rw [valV_neg (p := (p.1, y)) e, valV_neg e, ih]
    · rw [if_neg h]
      by_cases e : p.1 = j
      · rw [valV_pos (p := p) e, valV_pos e, Option.map_some, if_neg (fun z => h (e.trans z))]
      · rw [valV_neg (p := p) e, valV_neg e, ih]
theorem valV_snoc (k j : κ) (y : V) : ∀ kvs : List (κ × V), valV kvs k = none → valV (kvs ++ [(k, y)]) j = if j = k then some y else valV kvs j
  | [], _ => by
    by_cases e : k = j
    · rw [if_pos e.symm]; exact valV_pos (p := (k, y)) e
    · rw [if_neg (fun z => e z.symm)]; exact valV_neg (p := (k, y)) e
  | p :: r, hn => by
    rw [List.cons_append]
    have hk : ¬ p.1 = k := fun z => by rw [valV_pos z] at hn; cases hn
    rw [valV_neg hk] at hn
    have ih := valV_snoc k j y r hn
    by_cases e : p.1 = j
    · rw [valV_pos e, valV_pos e, if_neg (fun z => hk (e.trans z))]
    · rw [valV_neg e, valV_neg e, ih]
theorem valV_put (kvs : List (κ × V)) (k j : κ) (y : V) : valV (putK kvs k y) j = if j = k then some y else valV kvs j := by
  unfold putK
  by_cases a : (kvs.any fun kv => decide (kv.1 = k)) = true
  · rw [if_pos a, valV_map]
    rw [valV_any] at a
    by_cases e : j = k
    · obtain ⟨x, hx⟩ := Option.isSome_iff_exists.mp a
      rw [if_pos e, e, hx, Option.map_some, if_pos rfl]
    · rw [if_neg e]
      cases valV kvs j with
      | none => rfl
      | some x => rw [Option.map_some, if_neg e]
  · rw [if_neg a]
    refine valV_snoc k j y kvs ?_
    rw [valV_any] at a
    cases q : valV kvs k with
    | none => rfl
    | some x => rw [q] at a; exact (a rfl).elim
theorem length_putK (kvs : List (κ × V)) (k : κ) (v : V) : (putK kvs k v).length ≤ kvs.length + 1 := by
  unfold putK
  split
  · rw [List.length_map]; omega
  · rw [List.length_append, List.length_cons, List.length_nil]; omega
theorem putK_new {kvs : List (κ × V)} {k : κ} (v : V) (h : valV kvs k = none) : putK kvs k v = kvs ++ [(k, v)] := by
  unfold putK
  rw [valV_any, h]
  exact if_neg (by decide)

theorem RelO.isSome_eq {o : Option V} {u : Option Value} (r : RelO o u) : o.isSome = u.isSome := by
  cases o with
  | none => cases u with
    | none => rfl
    | some _ => exact (show False from r).elim
  | some _ => cases u with
    | none => exact (show False from r).elim
    | some _ => rfl
theorem RelO.getD {o : Option V} {u : Option Value} {d : V} {d' : Value} (r : RelO o u) (rd : RelV d d') : RelV (o.getD d) (u.getD d') := by
  cases o with
  | none => cases u with
    | none => exact rd
    | some _ => exact (show False from r).elim
  | some _ => cases u with
    | none => exact (show False from r).elim
    | some _ => exact r

/-- raw tables of the same keys -/
theorem KV.val {kvs : List (κ × V)} {vs : List (κ × Value)} (r : KV kvs vs) (k : κ) : RelO (valV kvs k) (valueAt vs k) := by
  unfold KV at r
  induction r with
  | nil => exact True.intro
  | @cons p q ps qs h t ih =>
    obtain ⟨h1, h2⟩ := h
    by_cases e : p.1 = k
    · have e' : q.1 = k := h1.symm.trans e
      have b : valueAt (q :: qs) k = some q.2 := by simp [valueAt, List.find?_cons, e']
      rw [valV_pos e, b]; exact h2
    · have e' : ¬ q.1 = k := fun z => e (h1.trans z)
      have b : valueAt (q :: qs) k = valueAt qs k := by simp [valueAt, List.find?_cons, e']
      rw [valV_neg e, b]; exact ih
theorem KV.any {kvs : List (κ × V)} {vs : List (κ × Value)} (r : KV kvs vs) (k : κ) : (kvs.any fun kv => decide (kv.1 = k)) = vs.any fun kv => decide (kv.1 = k) := by
  unfold KV at r
  induction r with
  | nil => rfl
  | cons h t ih => rw [List.any_cons, List.any_cons, ih, h.1]
theorem KV.repl {kvs : List (κ × V)} {vs : List (κ × Value)} (r : KV kvs vs) (k : κ) {y : V} {u : Value} (ry : RelV y u) :
    KV (kvs.map fun kv => if kv.1 = k then (kv.1, y) else kv) (vs.map fun kv => if kv.1 = k then (kv.1, u) else kv) := by
  unfold KV at r ⊢
  induction r with
  | nil => exact .nil
  | @cons p q ps qs h t ih =>
    rw [List.map_cons, List.map_cons]
    refine .cons ?_ ih
    obtain ⟨h1, h2⟩ := h
    by_cases e : p.1 = k
    · rw [if_pos e, if_pos (h1.symm.trans e)]; exact ⟨h1, ry⟩
    · rw [if_neg e, if_neg (fun z => e (h1.trans z))]; exact ⟨h1, h2⟩
theorem KV.put {kvs : List (κ × V)} {vs : List (κ × Value)} (r : KV kvs vs) (k : κ) {y : V} {u : Value} (ry : RelV y u) : KV (putK kvs k y) (stored vs k u) := by
  unfold putK stored
  rw [r.any k]
  by_cases e : (vs.any fun kv => decide (kv.1 = k)) = true
  · rw [if_pos e, if_pos e]; exact r.repl k ry
  · rw [if_neg e, if_neg e]; exact Paired.snoc r ⟨rfl, ry⟩
theorem KV.drop {kvs : List (κ × V)} {vs : List (κ × Value)} (r : KV kvs vs) (k : κ) : KV (dropK kvs k) (without vs k) := by
  unfold KV at r ⊢
  unfold dropK without
  induction r with
  | nil => exact .nil
  | @cons p q ps qs h t ih =>
    obtain ⟨h1, h2⟩ := h
    rw [List.filter_cons, List.filter_cons]
    by_cases e : p.1 = k
    · have a : ¬ decide (p.1 ≠ k) = true := by simp [e]
      have b : ¬ decide (q.1 ≠ k) = true := by simp [h1.symm.trans e]
      rw [if_neg a, if_neg b]; exact ih
    · have e' : ¬ q.1 = k := fun z => e (h1.trans z)
      have a : decide (p.1 ≠ k) = true := by simp [e]
      have b : decide (q.1 ≠ k) = true := by simp [e']
      rw [if_pos a, if_pos b]; exact .cons ⟨h1, h2⟩ ih
theorem KV.keys {kvs : List (κ × V)} {vs : List (κ × Value)} (r : KV kvs vs) : kvs.map (·.1) = vs.map (·.1) := by
  unfold KV at r
  induction r with
  | nil => rfl
  | cons h t ih => rw [List.map_cons, List.map_cons, ih, h.1]
theorem KV.length {kvs : List (κ × V)} {vs : List (κ × Value)} (r : KV kvs vs) : kvs.length = vs.length := Paired.length r
theorem dropK_le (kvs : List (κ × V)) (k : κ) : (dropK kvs k).length ≤ kvs.length := List.length_filter_le _ _
end


/-! ### a tracked dict, its keys ints and texts or tuples of these -/
theorem kV_is {P : Program} {w : World} {k : Key} {u : Value} (r : RelV (kV k) u) : (mixKind P w).is k u = true := by
  cases k with
  | inl i => obtain ⟨t, e⟩ := (show ∃ t, u = Value.int i t from r); subst e; exact mixKind_int P w i t
  | inr x => obtain ⟨t, e⟩ := (show ∃ t, u = Value.str x t from r); subst e; exact mixKind_str P w x t
theorem kV_inj {a b : Key} (e : kV a = kV b) : a = b := by
  cases a with
  | inl i => cases b with
    | inl j => have e' : V.int i = V.int j := e; injection e' with e'; rw [e']
    | inr y => exact nomatch (show V.int i = V.str y from e)
  | inr x => cases b with
    | inl j => exact nomatch (show V.str x = V.int j from e)
    | inr y => have e' : V.str x = V.str y := e; injection e' with e'; rw [e']
theorem kVs_inj : ∀ {a b : List Key}, a.map kV = b.map kV → a = b
  | [], [], _ => rfl
  | [], _ :: _, e => by simp at e
  | _ :: _, [], e => by simp at e
  | x :: xs, y :: ys, e => by
    rw [List.map_cons, List.map_cons] at e
    injection e with e1 e2
    rw [kV_inj e1, kVs_inj e2]
theorem items_are {P : Program} {w : World} : ∀ {ks : List Key} {us : List Value}, Vals (ks.map kV) us → ItemsAre (mixKind P w) ks us
  | [], _, r => by rw [List.map_nil] at r; cases r; exact .nil
  | k :: ks, _, r => by
    rw [List.map_cons] at r
    cases r with
    | cons h t => exact .cons (kV_is h) (items_are t)

/-- raw entries of a dict with tuple keys -/
abbrev KT (H : Hp) : List (List Key × V) → List (List Key × Addr × Value) → Prop := Paired fun p q => p.1 = q.1 ∧ H q.2.1 = some (.tup (p.1.map kV)) ∧ RelV p.2 q.2.2
theorem KT.val {H : Hp} {kvs : List (List Key × V)} {xs : List (List Key × Addr × Value)} (r : KT H kvs xs) (k : List Key) : RelO (valV kvs k) ((atKey xs k).map (·.2)) := by
  induction r with
  | nil => exact True.intro
  | @cons p q ps qs h t ih =>
    obtain ⟨h1, _, h2⟩ := h
    by_cases e : p.1 = k
    · have e' : q.1 = k := h1.symm.trans e
      have b : atKey (q :: qs) k = some q.2 := by simp [atKey, List.find?_cons, e']
      rw [valV_pos e, b]; exact h2
    · have e' : ¬ q.1 = k := fun z => e (h1.trans z)
      have b : atKey (q :: qs) k = atKey qs k := by simp [atKey, List.find?_cons, e']
      rw [valV_neg e, b]; exact ih
theorem KT.repl {H : Hp} {kvs : List (List Key × V)} {xs : List (List Key × Addr × Value)} (r : KT H kvs xs) (k : List Key) {y : V} {u : Value} (ry : RelV y u) :
    KT H (kvs.map fun kv => if kv.1 = k then (kv.1, y) else kv) (xs.map (putAt k u)) := by
  induction r with
  | nil => exact .nil
  | @cons p q ps qs h t ih =>
    rw [List.map_cons, List.map_cons]
    refine .cons ?_ ih
    obtain ⟨h1, h2, h3⟩ := h
    unfold putAt
    by_cases e : p.1 = k
    · rw [if_pos e, if_pos (h1.symm.trans e)]; exact ⟨h1, h2, ry⟩
    · rw [if_neg e, if_neg (fun z => e (h1.trans z))]; exact ⟨h1, h2, h3⟩
theorem KT.put {H : Hp} {kvs : List (List Key × V)} {xs : List (List Key × Addr × Value)} (r : KT H kvs xs) (k : List Key) {b : Addr} {y : V} {u : Value} (hb : H b = some (.tup (k.map kV))) (ry : RelV y u) :
    KT H (putK kvs k y) (storedH xs k b u) := by
  have e : (kvs.any fun kv => decide (kv.1 = k)) = (atKey xs k).isSome := by
    rw [valV_any, (r.val k).isSome_eq, Option.isSome_map]
  unfold putK storedH
  rw [e]
  by_cases q : (atKey xs k).isSome = true
  · rw [if_pos q, if_pos q]; exact r.repl k ry
  · rw [if_neg q, if_neg q]; exact Paired.snoc r ⟨rfl, hb, ry⟩
theorem KT.keeps {H H' : Hp} {kvs : List (List Key × V)} {xs : List (List Key × Addr × Value)} (r : KT H kvs xs) (ht : ∀ b ys, H b = some (.tup ys) → H' b = some (.tup ys)) : KT H' kvs xs :=
  Paired.mapP r fun _ _ z => ⟨z.1, ht _ _ z.2.1, z.2.2⟩

section
variable {P : Program} {w : World} {H : Hp} {h : Heap} {a : Addr}
theorem rd_of {u : HO} (ok : HOk P w H h) (e : Rd H a u) : ObjOk P w H h a u := e.ok ok
theorem dk_rd {kvs : List (Key × V)} (ok : HOk P w H h) (e : Rd H a (.dK kvs)) : kvs.length ≤ sizeLine ∧ (a == sysModules) = false ∧ ∃ vs, KV kvs vs ∧ h.DictOf (mixKind P w) a vs :=
  show ObjOk P w H h a (.dK kvs) from rd_of ok e
theorem dk_of {kvs : List (Key × V)} (ok : HOk P w H h) (e : H a = some (.dK kvs)) : kvs.length ≤ sizeLine ∧ (a == sysModules) = false ∧ ∃ vs, KV kvs vs ∧ h.DictOf (mixKind P w) a vs := dk_rd ok (.inl e)
/-- a tracked tuple of ints and texts is a key -/
theorem key_of {ks : List Key} (ok : HOk P w H h) (e : H a = some (.tup (ks.map kV))) : (tupleKind (mixKind P w)).is h ks a := by
  obtain ⟨_, its, r, o, h1, h2, n, h3⟩ := (show ObjOk P w H h a (.tup (ks.map kV)) from ok a _ e)
  exact ⟨o, its.toArray, n, h1, h2, h3, by simpa using items_are r⟩
theorem dt_rd {kvs : List (List Key × V)} (ok : HOk P w H h) (e : Rd H a (.dT kvs)) : kvs.length ≤ sizeLine ∧ (a == sysModules) = false ∧
    ∃ xs, KT H kvs xs ∧ h.DictOfH (tupleKind (mixKind P w)) a xs := by
  obtain ⟨z, y, xs, r, o, es, ep, h1, h2, h3, h4, h5⟩ := (show ObjOk P w H h a (.dT kvs) from rd_of ok e)
  refine ⟨z, y, xs, r, o, es, ep, h1, h2, h3, h4, fun x hx => ?_, h5⟩
  have all : ∀ {l : List (List Key × V)} {m : List (List Key × Addr × Value)}, KT H l m → ∀ x ∈ m, (tupleKind (mixKind P w)).is h x.1 x.2.1 := by
    intro l m q
    induction q with
    | nil => intro x hx; exact nomatch hx
    | @cons p q ps qs hq t ih =>
      intro x hx
      rcases List.mem_cons.mp hx with e | hx
      · subst e
        exact key_of ok (by rw [← hq.1]; exact hq.2.1)
      · exact ih x hx
  exact all r x hx
theorem dt_of {kvs : List (List Key × V)} (ok : HOk P w H h) (e : H a = some (.dT kvs)) : kvs.length ≤ sizeLine ∧ (a == sysModules) = false ∧
    ∃ xs, KT H kvs xs ∧ h.DictOfH (tupleKind (mixKind P w)) a xs := dt_rd ok (.inl e)
end

/-- what the dict at a holds at the key y -/
def DGet (H : Hp) (a : Addr) (y : V) (r : Option V) : Prop :=
  (∃ kvs k, Rd H a (.dK kvs) ∧ y = kV k ∧ r = valV kvs k) ∨ ∃ kvs k b, Rd H a (.dT kvs) ∧ y = .ref b ∧ H b = some (.tup (k.map kV)) ∧ r = valV kvs k
/-- the heap behind a[y] = v -/
def DPut (H : Hp) (a : Addr) (y v : V) (H' : Hp) : Prop :=
  (∃ kvs k, H a = some (.dK kvs) ∧ y = kV k ∧ kvs.length < sizeLine ∧ H' = upd H a (.dK (putK kvs k v))) ∨
  ∃ kvs k b, H a = some (.dT kvs) ∧ y = .ref b ∧ H b = some (.tup (k.map kV)) ∧ kvs.length < sizeLine ∧ H' = upd H a (.dT (putK kvs k v))
theorem DGet.k {H : Hp} {a : Addr} {kvs : List (Key × V)} {k : Key} (e : H a = some (.dK kvs)) : DGet H a (kV k) (valV kvs k) := .inl ⟨kvs, k, .inl e, rfl, rfl⟩
theorem DGet.t {H : Hp} {a b : Addr} {kvs : List (List Key × V)} {k : List Key} (e : H a = some (.dT kvs)) (eb : H b = some (.tup (k.map kV))) : DGet H a (.ref b) (valV kvs k) := .inr ⟨kvs, k, b, .inl e, rfl, eb, rfl⟩
theorem DPut.k {H : Hp} {a : Addr} {kvs : List (Key × V)} {k : Key} {v : V} (e : H a = some (.dK kvs)) (hl : kvs.length < sizeLine) : DPut H a (kV k) v (upd H a (.dK (putK kvs k v))) := .inl ⟨kvs, k, e, rfl, hl, rfl⟩
theorem DPut.t {H : Hp} {a b : Addr} {kvs : List (List Key × V)} {k : List Key} {v : V} (e : H a = some (.dT kvs)) (eb : H b = some (.tup (k.map kV))) (hl : kvs.length < sizeLine) :
    DPut H a (.ref b) v (upd H a (.dT (putK kvs k v))) := .inr ⟨kvs, k, b, e, rfl, eb, hl, rfl⟩


section
variable {X : Cx} {pins : List (Addr × Obj)} {σ : St} {H : Hp} {s : Shared} {a : Addr} {y v : V} {u r : Value} {o : Option V} {A : Around} {E : Value → Shared → Prop}

theorem Inv.big (I : Inv X pins σ H s) : sysModules < s.heap.objs.size := by
  have h : mainGlobals < s.heap.objs.size := (I.mod.glob.keeps I.bk).lt
  exact Nat.lt_trans (by decide) h

/-- d[y], there -/
theorem d_getItem {Q : Value → Shared → Prop} (hu : A.units + 1 < cLine) (I : Inv X pins σ H s) (g : DGet H a y (some v)) (ry : RelV y u) (h : ∀ w' s', Inv X pins σ H s' → RelV v w' → Q w' s') :
    wpAny (model X.prog X.w) A (getItem (.ref a) u) Q E s := by
  rcases g with ⟨kvs, k, e, ey, l⟩ | ⟨kvs, k, b, e, ey, eb, l⟩
  · subst ey
    obtain ⟨z, hd, vs, rel, dd⟩ := dk_rd I.hok e
    obtain ⟨w', hw, rw'⟩ := RelO.some_of (v := v) (o := valueAt vs k) (by rw [l]; exact rel.val k)
    exact wpAny_getItem_of (kV_is ry) dd.mapOf hw (h w' _ (I.tok _) rw')
  · subst ey
    cases (show u = Value.ref b from ry)
    obtain ⟨z, hd, xs, rel, dd⟩ := dt_rd I.hok e
    obtain ⟨w', hw, rw'⟩ := RelO.some_of (v := v) (o := (atKey xs k).map (·.2)) (by rw [l]; exact rel.val k)
    obtain ⟨p, hp, hp2⟩ := Option.map_eq_some_iff.mp hw
    refine wpAny_getItem_heap (tupleKind_room_in1 hu) (key_of I.hok eb) dd hp ?_
    rw [hp2]
    exact h w' _ (I.tok _) rw'
/-- y in d -/
theorem d_in {Q : Value → Shared → Prop} (hu : A.units + 1 < cLine) (I : Inv X pins σ H s) (g : DGet H a y o) (ry : RelV y u) (h : ∀ s', Inv X pins σ H s' → Q (.bool o.isSome) s') :
    wpAny (model X.prog X.w) A (compareOp .In u (.ref a)) Q E s := by
  rcases g with ⟨kvs, k, e, ey, l⟩ | ⟨kvs, k, b, e, ey, eb, l⟩
  · subst ey
    obtain ⟨z, hd, vs, rel, dd⟩ := dk_rd I.hok e
    refine wpAny_in_of (kV_is ry) hd dd.mapOf ?_
    rw [← (rel.val k).isSome_eq, ← l]
    exact h _ (I.tok _)
  · subst ey
    cases (show u = Value.ref b from ry)
    obtain ⟨z, hd, xs, rel, dd⟩ := dt_rd I.hok e
    refine wpAny_in_heap (tupleKind_room_in1 hu) (key_of I.hok eb) hd dd ?_
    have q := (rel.val k).isSome_eq
    rw [Option.isSome_map] at q
    rw [← q, ← l]
    exact h _ (I.tok _)
theorem d_notIn {Q : Value → Shared → Prop} (hu : A.units + 1 < cLine) (I : Inv X pins σ H s) (g : DGet H a y o) (ry : RelV y u) (h : ∀ s', Inv X pins σ H s' → Q (.bool (!o.isSome)) s') :
    wpAny (model X.prog X.w) A (compareOp .NotIn u (.ref a)) Q E s := by
  rcases g with ⟨kvs, k, e, ey, l⟩ | ⟨kvs, k, b, e, ey, eb, l⟩
  · subst ey
    obtain ⟨z, hd, vs, rel, dd⟩ := dk_rd I.hok e
    refine wpAny_notIn_of (kV_is ry) hd dd.mapOf ?_
    rw [← (rel.val k).isSome_eq, ← l]
    exact h _ (I.tok _)
  · subst ey
    cases (show u = Value.ref b from ry)
    obtain ⟨z, hd, xs, rel, dd⟩ := dt_rd I.hok e
    refine wpAny_notIn_heap (tupleKind_room_in1 hu) (key_of I.hok eb) hd dd ?_
    have q := (rel.val k).isSome_eq
    rw [Option.isSome_map] at q
    rw [← q, ← l]
    exact h _ (I.tok _)
/-- a dict's object is replaced -/
theorem d_write {h' : Heap} {t' : Nat} {ob : HO} (I : Inv X pins σ H s) (mu : Mut (H a)) (hs : Heap.SameBut a s.heap h') (he : ∃ q, h'.get? a = some q) (new : ObjOk X.prog X.w (upd H a ob) h' a ob) :
    Inv X pins σ (upd H a ob) { s with heap := h', toks := t' } :=
  I.write (x := a) (e := a) mu (.inl rfl) (fun b q hb z => (hs.2 b hb).trans z) he new
theorem dk_new {P : Program} {w : World} {H' : Hp} {h' : Heap} {kvs : List (Key × V)} {vs : List (Key × Value)} (z : kvs.length ≤ sizeLine) (hd : (a == sysModules) = false) (rel : KV kvs vs) (dd : h'.DictOf (mixKind P w) a vs) :
    ObjOk P w H' h' a (.dK kvs) := ⟨z, hd, vs, rel, dd⟩
/-- d[y] = v -/
theorem d_setItem {H' : Hp} {Q : Unit → Shared → Prop} (hu : A.units + 1 < cLine) (I : Inv X pins σ H s) (g : DPut H a y v H') (ry : RelV y u) (rv : RelV v r) (h : ∀ s', Inv X pins σ H' s' → Q () s') :
    wpAny (model X.prog X.w) A (setItem (.ref a) u r) Q E s := by
  rcases g with ⟨kvs, k, e, ey, l, eH⟩ | ⟨kvs, k, b, e, ey, eb, l, eH⟩
  · subst ey eH
    obtain ⟨z, hd, vs, rel, dd⟩ := dk_of I.hok e
    have hz : vs.length ≤ sizeLine := by rw [← rel.length]; exact z
    have hl : (putK kvs k v).length ≤ sizeLine := by have := length_putK kvs k v; omega
    refine wpAny_setItem_pairs (hsz := hz) (kV_is ry) dd fun h' dd' hs => h _ ?_
    have he : ∃ q, h'.get? a = some q := let ⟨q, _, _, hq, _⟩ := dd'; ⟨q, hq⟩
    exact d_write I (by rw [e]; exact True.intro) hs he (dk_new hl hd (rel.put k rv) dd')
  · subst ey eH
    cases (show u = Value.ref b from ry)
    obtain ⟨z, hd, xs, rel, dd⟩ := dt_of I.hok e
    have hz : xs.length ≤ sizeLine := by rw [← Paired.length rel]; exact z
    have hl : (putK kvs k v).length ≤ sizeLine := by have := length_putK kvs k v; omega
    refine wpAny_setItem_heap (hsz := hz) (tupleKind_room_in1 hu) (key_of I.hok eb) dd fun h' dd' hs => h _ ?_
    obtain ⟨q, es, ep, hq, h2, h3, h4, _, h5⟩ := dd'
    refine d_write I (by rw [e]; exact True.intro) hs ⟨q, hq⟩ ⟨hl, hd, _, (rel.put k eb rv).keeps fun c ys ec => ?_, q, es, ep, hq, h2, h3, h4, h5⟩
    rw [upd_ne (ne_of ec e (fun z => nomatch z))]
    exact ec
end

section
variable {X : Cx} {pins : List (Addr × Obj)} {σ : St} {H : Hp} {s : Shared} {a : Addr} {kvs : List (Key × V)} {k : Key} {u : Value} {A : Around} {E : Value → Shared → Prop}
/-- del d[k] -/
theorem d_delItem {Q : Unit → Shared → Prop} (I : Inv X pins σ H s) (e : H a = some (.dK kvs)) (ry : RelV (kV k) u) (l : (valV kvs k).isSome = true) (h : ∀ s', Inv X pins σ (upd H a (.dK (dropK kvs k))) s' → Q () s') :
    wpAny (model X.prog X.w) A (delItem (.ref a) u) Q E s := by
  obtain ⟨z, hd, vs, rel, dd⟩ := dk_of I.hok e
  refine wpAny_delItem_slot dd.typeIs (by decide) PySem.F.slot_dict_delitem
    (call_meetsIn PySem.F.slot_dict_delitem dd.typeIs PySem.F.entry_dict_delitem (PySem.F.args_dict_delitem_2 _ _) (meets_dict_delitem_pairs (mixKind X.prog X.w) a (kV_is ry)) ⟨vs, dd, by rw [← rel.length]; exact z, by rw [← (rel.val k).isSome_eq]; exact l, fun h' dd' hs => h _ ?_⟩)
  have he : ∃ q, h'.get? a = some q := let ⟨q, _, _, hq, _⟩ := dd'; ⟨q, hq⟩
  exact d_write I (by rw [e]; exact True.intro) hs he (dk_new (Nat.le_trans (dropK_le kvs k) z) hd (rel.drop k) dd')
/-- d.pop(k[, x]), there -/
theorem d_pop {v : V} {more : List Value} {Q : Value → Shared → Prop} (I : Inv X pins σ H s) (e : H a = some (.dK kvs)) (ry : RelV (kV k) u) (l : valV kvs k = some v) (hm : more = [] ∨ ∃ x, more = [x])
    (h : ∀ w' s', Inv X pins σ (upd H a (.dK (dropK kvs k))) s' → RelV v w' → Q w' s') : wpAny (model X.prog X.w) A (call (.builtin "dict.pop") (.ref a :: u :: more)) Q E s := by
  obtain ⟨z, hd, vs, rel, dd⟩ := dk_of I.hok e
  obtain ⟨w', hw, rw'⟩ := RelO.some_of (v := v) (o := valueAt vs k) (by rw [← l]; exact rel.val k)
  have hp : (keyPart u).isSome = true := by
    cases k with
    | inl i => obtain ⟨t, q⟩ := (show ∃ t, u = Value.int i t from ry); subst q; rfl
    | inr x => obtain ⟨t, q⟩ := (show ∃ t, u = Value.str x t from ry); subst q; rfl
  have ha : argsOk "dict.pop" ⟨.ref a :: u :: more, []⟩ := by
    rcases hm with q | ⟨x, q⟩
    · subst q; exact PySem.F.args_dict_pop_2 _ _
    · subst q; exact PySem.F.args_dict_pop_3 _ _ _
  refine call_meetsIn PySem.F.slot_dict_pop dd.typeIs PySem.F.entry_dict_pop ha (meets_dict_pop_there (mixKind X.prog X.w) a (kV_is ry) more hm hp)
    ⟨vs, w', dd, by rw [← rel.length]; exact z, hw, fun h' dd' hs => h w' _ ?_ rw'⟩
  have he : ∃ q, h'.get? a = some q := let ⟨q, _, _, hq, _⟩ := dd'; ⟨q, hq⟩
  exact d_write I (by rw [e]; exact True.intro) hs he (dk_new (Nat.le_trans (dropK_le kvs k) z) hd (rel.drop k) dd')
/-- d.pop(k, x), not there -/
theorem d_popD {r : Value} {Q : Value → Shared → Prop} (I : Inv X pins σ H s) (e : H a = some (.dK kvs)) (ry : RelV (kV k) u) (l : valV kvs k = none) (h : ∀ s', Inv X pins σ H s' → Q r s') :
    wpAny (model X.prog X.w) A (call (.builtin "dict.pop") [.ref a, u, r]) Q E s := by
  obtain ⟨z, hd, vs, rel, dd⟩ := dk_of I.hok e
  have hn : valueAt vs k = none := RelO.none_of (by rw [← l]; exact rel.val k)
  have hp : (keyPart u).isSome = true := by
    cases k with
    | inl i => obtain ⟨t, q⟩ := (show ∃ t, u = Value.int i t from ry); subst q; rfl
    | inr x => obtain ⟨t, q⟩ := (show ∃ t, u = Value.str x t from ry); subst q; rfl
  exact call_meetsIn PySem.F.slot_dict_pop dd.typeIs PySem.F.entry_dict_pop (PySem.F.args_dict_pop_3 _ _ _) (meets_dict_pop_default (mixKind X.prog X.w) a (kV_is ry) hd hp r) ⟨vs, dd, hn, h _ (I.tok _)⟩
/-- d.clear() -/
theorem d_clear {Q : Value → Shared → Prop} (I : Inv X pins σ H s) (e : H a = some (.dK kvs)) (h : ∀ s', Inv X pins σ (upd H a (.dK [])) s' → Q .none s') : wpAny (model X.prog X.w) A (call (.builtin "dict.clear") [.ref a]) Q E s := by
  obtain ⟨z, hd, vs, rel, dd⟩ := dk_of I.hok e
  refine call_meetsIn PySem.F.slot_dict_clear dd.typeIs PySem.F.entry_dict_clear (PySem.F.args_dict_clear_1 _) (meets_dict_clear (mixKind X.prog X.w) a) ⟨vs, dd, by rw [← rel.length]; exact z, fun h' dd' hs => h _ ?_⟩
  have he : ∃ q, h'.get? a = some q := let ⟨q, _, _, hq, _⟩ := dd'; ⟨q, hq⟩
  exact d_write (t' := s.toks) I (by rw [e]; exact True.intro) hs he (dk_new (Nat.zero_le _) hd .nil dd')
/-- len(d) -/
theorem d_len {Q : Value → Shared → Prop} (I : Inv X pins σ H s) (e : Rd H a (.dK kvs)) (h : ∀ t s', Inv X pins σ H s' → Q (.int kvs.length t) s') : wpAny (model X.prog X.w) A (call (.builtin "len") [.ref a]) Q E s := by
  obtain ⟨z, hd, vs, rel, dd⟩ := dk_rd I.hok e
  refine call_len_dict hd dd (by rw [← rel.length]; rw [sizeLine_eq] at z; omega) ?_
  rw [← rel.length]
  exact h _ _ (I.tok _)
/-- if d -/
theorem d_truth {Q : Bool → Shared → Prop} (I : Inv X pins σ H s) (e : Rd H a (.dK kvs)) (h : ∀ s', Inv X pins σ H s' → Q (!kvs.isEmpty) s') : wpAny (model X.prog X.w) A (truthy (.ref a)) Q E s := by
  obtain ⟨z, hd, vs, rel, dd⟩ := dk_rd I.hok e
  refine wpAny_truthy_dict hd dd (by rw [← rel.length]; rw [sizeLine_eq] at z; omega) ?_
  have q : kvs.isEmpty = vs.isEmpty := by cases rel <;> rfl
  rw [← q]
  exact h _ (I.tok _)
end


/-! ### readings and rules -/
/-- the element of a subscription, not a slice -/
def NoSl (i : Expr) : Prop := ∀ ov iv, subscripted i false ov iv = operate [ov, iv] (getItem ov iv)
theorem subD_of {prog : Program} {w : World} {A : Around} {E : Value → Shared → Prop} {s : Shared} {env : Env} {value slice : Expr} {pos : Pos} {T id : String} {Q : Value → Shared → Prop}
    (hl : typeLookup (.type T) "__getitem__" = pure (some (.builtin id))) (hs : NoSl slice)
    (h : wpAny (model prog w) A (eval value env) (fun o s₁ => wpAny (model prog w) A (eval slice env) (fun i s₂ => s₂.TypeIs o T ∧ wpAny (model prog w) A (getItem o i) Q E s₂) E s₁) E s) :
    wpAny (model prog w) A (eval (.Subscript value slice pos) env) Q E s := by
  refine Subscript_ (wpAny_mono h (fun o s₁ h₁ => wpAny_mono h₁ (fun i s₂ h₂ => ?_) fun _ _ x => x) fun _ _ x => x)
  obtain ⟨hT, h₂⟩ := h₂
  unfold subscriptTail
  refine wpAny_bind ?_
  rw [getitemInPython_of_ne hT.not_modules]
  refine wpAny_bind (wpAny_specialOf hT hl ?_)
  have fin : wpAny (model prog w) A (subscripted slice false o i) (fun r s₃ => wpAny (model prog w) A (letTemporaryGo value o r >>= fun _ => pure r) Q E s₃) E s₂ := by
    rw [hs o i]
    exact wpAny_operating (wpAny_mono h₂ (fun r s₃ h₃ => wpAny_bind (wpAny_letTemporaryGo (wpAny_pure h₃))) fun _ _ x => x)
  first
    | exact wpAny_pure (wpAny_bind fin)
    | exact wpAny_bind (wpAny_pure (wpAny_bind fin))
    | exact wpAny_bind fin

theorem dict_typeIs {X : Cx} {pins : List (Addr × Obj)} {σ : St} {H : Hp} {s : Shared} {a : Addr} {y : V} {o : Option V} (I : Inv X pins σ H s) (g : DGet H a y o) : s.TypeIs (.ref a) "dict" := by
  rcases g with ⟨kvs, k, e, _, _⟩ | ⟨kvs, k, b, e, _, _, _⟩
  · obtain ⟨_, _, vs, _, dd⟩ := dk_rd I.hok e
    exact dd.typeIs
  · obtain ⟨_, _, xs, _, dd⟩ := dt_rd I.hok e
    exact dd.typeIs
theorem dict_noDict {X : Cx} {pins : List (Addr × Obj)} {σ : St} {H : Hp} {s : Shared} {a : Addr} {y : V} {o : Option V} (I : Inv X pins σ H s) (g : DGet H a y o) :
    ∀ b, Value.ref a = .ref b → ∃ ob, s.heap.get? b = some ob ∧ ob.dict = none := fun b q => by
  cases q
  rcases g with ⟨kvs, k, e, _, _⟩ | ⟨kvs, k, b, e, _, _, _⟩
  · obtain ⟨_, _, vs, _, ob, _, _, h1, h2, _⟩ := dk_rd I.hok e
    exact ⟨ob, h1, h2.2.1⟩
  · obtain ⟨_, _, xs, _, ob, _, _, h1, h2, _⟩ := dt_rd I.hok e
    exact ⟨ob, h1, h2.2.1⟩

/-- d[y] -/
def tDGet (td ty : TE) : TE := fun σ H Q => td σ H fun x H1 => ty σ H1 fun y H2 => ∃ a v, x = .ref a ∧ DGet H2 a y (some v) ∧ Q v H2
/-- y in d, y not in d -/
def tDIn (ty td : TE) : TE := fun σ H Q => ty σ H fun y H1 => td σ H1 fun x H2 => ∃ a o, x = .ref a ∧ DGet H2 a y o ∧ Q (.bl o.isSome) H2
def tDNotIn (ty td : TE) : TE := fun σ H Q => ty σ H fun y H1 => td σ H1 fun x H2 => ∃ a o, x = .ref a ∧ DGet H2 a y o ∧ Q (.bl (!o.isSome)) H2
/-- d[y] = v -/
def sDPut (td ty tv : TE) : TS := fun D σ H => tv σ H fun v H1 => td σ H1 fun x H2 => ty σ H2 fun y H3 => ∃ a H4, x = .ref a ∧ DPut H3 a y v H4 ∧ D.nx σ H4
/-- d[y] op= v -/
def sDAug (td ty tv : TE) (rd : V → V → Hp → VK → Prop) : TS := fun D σ H => td σ H fun x H1 => ty σ H1 fun y H2 => ∃ a v, x = .ref a ∧ DGet H2 a y (some v) ∧
  tv σ H2 fun y2 H3 => rd v y2 H3 fun z H4 => ∃ H5, DPut H4 a y z H5 ∧ D.nx σ H5
/-- del d[y] -/
def sDDel (td ty : TE) : TS := fun D σ H => td σ H fun x H1 => ty σ H1 fun y H2 => ∃ a kvs k, x = .ref a ∧ H2 a = some (.dK kvs) ∧ y = kV k ∧ (valV kvs k).isSome = true ∧ D.nx σ (upd H2 a (.dK (dropK kvs k)))

section
variable {X : Cx} {o i e value : Expr} {pos pos' tpos : Pos} {td ty tv : TE}
theorem pe_dget (hu : X.A.units + 1 < cLine) (ho : PE X o td) (hi : PE X i ty) (hs : NoSl i) : PE X (.Subscript o i pos) (tDGet td ty) := by
  intro pins s σ H Q I h
  refine subD_of PySem.F.slot_dict_getitem.lookup hs (thn (ho pins s σ H _ I h) fun u s1 ⟨x, H1, I1, rx, q1⟩ => thn (hi pins s1 σ H1 _ I1 q1) fun iv s2 ⟨y, H2, I2, ry, a, v, ex, g, q2⟩ => ?_)
  subst ex
  obtain rfl : u = Value.ref a := rx
  exact ⟨dict_typeIs I2 g, d_getItem hu I2 g ry fun w' s3 I3 rw' => ⟨v, H2, I3, rw', q2⟩⟩
theorem pc_din (hu : X.A.units + 1 < cLine) (hi : PE X i ty) (ho : PE X o td) : PC X .In i o (tDIn ty td) := by
  intro pins s σ H Q I h
  refine thn (hi pins s σ H _ I h) fun iv s1 ⟨y, H1, I1, ry, q1⟩ => thn (ho pins s1 σ H1 _ I1 q1) fun u s2 ⟨x, H2, I2, rx, a, ov, ex, g, q2⟩ => ?_
  subst ex
  obtain rfl : u = Value.ref a := rx
  exact d_in hu I2 g ry fun s3 I3 => ⟨.bl ov.isSome, H2, I3, rfl, q2⟩
theorem pc_dnotin (hu : X.A.units + 1 < cLine) (hi : PE X i ty) (ho : PE X o td) : PC X .NotIn i o (tDNotIn ty td) := by
  intro pins s σ H Q I h
  refine thn (hi pins s σ H _ I h) fun iv s1 ⟨y, H1, I1, ry, q1⟩ => thn (ho pins s1 σ H1 _ I1 q1) fun u s2 ⟨x, H2, I2, rx, a, ov, ex, g, q2⟩ => ?_
  subst ex
  obtain rfl : u = Value.ref a := rx
  exact d_notIn hu I2 g ry fun s3 I3 => ⟨.bl (!ov.isSome), H2, I3, rfl, q2⟩
theorem ps_dput (hu : X.A.units + 1 < cLine) (ho : PE X o td) (hi : PE X i ty) (hv : PE X value tv) (hs : swapsWith value (some (.Subscript o i pos')) pos.line X.env = pure false) :
    PS X (.Assign [.Subscript o i pos'] value pos) (sDPut td ty tv) := by
  intro pins s σ H D I h
  refine wpAny_Assign_Subscript (thn (hv pins s σ H _ I h) fun r s1 ⟨v, H1, I1, rv, q1⟩ => thn (ho pins s1 σ H1 _ I1 q1) fun u s2 ⟨x, H2, I2, rx, q2⟩ => thn (hi pins s2 σ H2 _ I2 q2) fun iv s3 ⟨y, H3, I3, ry, a, H4, ex, g, q3⟩ => ?_) hs
  subst ex
  obtain rfl : u = Value.ref a := rx
  exact d_setItem hu I3 g ry rv fun s4 I4 => ⟨σ, H4, I4, q3⟩
theorem ps_daug {op : Operator} {rd : V → V → Hp → VK → Prop} (hu : X.A.units + 1 < cLine) (ho : PE X o td) (hi : PE X i ty) (hv : PE X value tv) (hop : InOp X op rd)
    (ha : ∀ ov iv new, augStore i ov iv new = (do holding [new, ov, iv] (setItem ov iv new); release [new, ov, iv] []; pure .next)) : PS X (.AugAssign (.Subscript o i tpos) op value pos) (sDAug td ty tv rd) := by
  intro pins s σ H D I h
  refine wpAny_AugAssign_SubscriptAny (thn (ho pins s σ H _ I h) fun u s1 ⟨x, H1, I1, rx, q1⟩ => thn (hi pins s1 σ H1 _ I1 q1) fun iv s2 ⟨y, H2, I2, ry, a, v, ex, g, q2⟩ => ?_) ha
  subst ex
  obtain rfl : u = Value.ref a := rx
  refine d_getItem hu I2 g ry fun w' s3 I3 rw' => thn (hv pins s3 σ H2 _ I3 q2) fun w2 s4 ⟨y2, H3, I4, ry2, q3⟩ => thn (hop pins s4 σ H3 v y2 w' w2 _ I4 rw' ry2 q3) fun w3 s5 ⟨z, H4, I5, rz, H5, g5, q4⟩ => ?_
  exact d_setItem hu I5 g5 ry rz fun s6 I6 => ⟨σ, H5, I6, q4⟩
theorem ps_ddel (ho : PE X o td) (hi : PE X i ty) : PS X (.Delete [.Subscript o i tpos] pos) (sDDel td ty) := by
  intro pins s σ H D I h
  refine wpAny_Delete (wpAny_deleteEach_cons (wpAny_delete_Subscript (thn (ho pins s σ H _ I h) fun u s1 ⟨x, H1, I1, rx, q1⟩ => thn (hi pins s1 σ H1 _ I1 q1) fun iv s2 ⟨y, H2, I2, ry, a, kvs, k, ex, e, ey, l, q2⟩ => ?_)))
  subst ex ey
  obtain rfl : u = Value.ref a := rx
  exact d_delItem I2 e ry l fun s3 I3 => wpAny_deleteEach_nil ⟨σ, _, I3, q2⟩
end


/-! ### displays -/
theorem dk_empty {P : Program} {w : World} {H : Hp} (h : Heap) (hb : sysModules < h.objs.size) : ObjOk P w H (h.push { cls := .type "dict", data := .dict #[] }) h.objs.size (.dK []) :=
  ⟨Nat.zero_le _, beq_eq_false_iff_ne.mpr (Ne.symm (Nat.ne_of_lt hb)), [], .nil, Heap.DictOf.new h⟩
theorem dt_empty {P : Program} {w : World} {H : Hp} (h : Heap) (hb : sysModules < h.objs.size) : ObjOk P w H (h.push { cls := .type "dict", data := .dict #[] }) h.objs.size (.dT []) :=
  ⟨Nat.zero_le _, beq_eq_false_iff_ne.mpr (Ne.symm (Nat.ne_of_lt hb)), [], .nil, _, #[], 0, Heap.get?_push_size _ rfl, ⟨rfl, rfl, rfl⟩, rfl, rfl, List.nodup_nil⟩
/-- {}, to be a dict of the kind that is wanted -/
def tDNewK : TE := fun _ H Q => ∀ p, H p = none → Q (.ref p) (upd H p (.dK []))
def tDNewT : TE := fun _ H Q => ∀ p, H p = none → Q (.ref p) (upd H p (.dT []))
section
variable {X : Cx} {pos : Pos}
theorem pe_dnewK : PE X (.Dict [] [] pos) tDNewK := fun pins s σ H Q I h =>
  wpAny_Dict_empty ⟨.ref s.heap.objs.size, _, I.laid (a := s.heap.objs.size) (o := .dK []) (t' := s.toks) (fun _ _ q => Heap.get?_push_of_some _ q) (Nat.le_refl _) (dk_empty s.heap I.big), rfl, h _ (I.hok.fresh (Nat.le_refl _))⟩
theorem pe_dnewT : PE X (.Dict [] [] pos) tDNewT := fun pins s σ H Q I h =>
  wpAny_Dict_empty ⟨.ref s.heap.objs.size, _, I.laid (a := s.heap.objs.size) (o := .dT []) (t' := s.toks) (fun _ _ q => Heap.get?_push_of_some _ q) (Nat.le_refl _) (dt_empty s.heap I.big), rfl, h _ (I.hok.fresh (Nat.le_refl _))⟩
end

/-- the pairs of a display, from the left -/
def tPairs : List (TE × TE) → St → Hp → (List (V × V) → Hp → Prop) → Prop
  | [], _, H, Q => Q [] H
  | (tk, tv) :: r, σ, H, Q => tk σ H fun x H1 => tv σ H1 fun y H2 => tPairs r σ H2 fun ps H3 => Q ((x, y) :: ps) H3
abbrev VV : List (V × V) → List (Value × Value) → Prop := Paired fun p q => RelV p.1 q.1 ∧ RelV p.2 q.2
def PPs (X : Cx) (pos : Pos) (keys : List (Option Expr)) (values : List Expr) (trs : List (TE × TE)) : Prop :=
  ∀ (pins : List (Addr × Obj)) (s : Shared) (σ : St) (H : Hp) (Q : List (V × V) → Hp → Prop), Inv X pins σ H s → tPairs trs σ H Q →
    wpAny (model X.prog X.w) X.A (evalPairs (pairTrees keys values X.env pos)) (fun vs s' => ∃ ps H', Inv X pins σ H' s' ∧ VV ps vs ∧ Q ps H') X.xe s
theorem pps_nil {X : Cx} {pos : Pos} : PPs X pos [] [] [] := fun pins s σ H Q I h => pairTrees_nil_walk ⟨[], H, I, .nil, h⟩
theorem pps_cons {X : Cx} {pos : Pos} {k v : Expr} {ks : List (Option Expr)} {vs : List Expr} {tk tv : TE} {trs : List (TE × TE)} (hk : PE X k tk) (hv : PE X v tv) (hr : PPs X pos ks vs trs) :
    PPs X pos (some k :: ks) (v :: vs) ((tk, tv) :: trs) := fun pins s σ H Q I h =>
  pairTrees_cons_walk (thn (hk pins s σ H _ I h) fun u s1 ⟨x, H1, I1, rx, q1⟩ => thn (hv pins s1 σ H1 _ I1 q1) fun w2 s2 ⟨y, H2, I2, ry, q2⟩ =>
    thn (hr pins s2 σ H2 _ I2 q2) fun ws s3 ⟨ps, H3, I3, rel, q3⟩ => ⟨(x, y) :: ps, H3, I3, .cons ⟨rx, ry⟩ rel, q3⟩)

def mergeK (kvs more : List (Key × V)) : List (Key × V) := more.foldl (fun acc kv => putK acc kv.1 kv.2) kvs
theorem KV.merge : ∀ {more : List (Key × V)} {rs : List (Key × Value)} {kvs : List (Key × V)} {vs : List (Key × Value)}, KV more rs → KV kvs vs → KV (mergeK kvs more) (merged vs rs) := by
  intro more rs kvs vs r
  unfold KV at r
  induction r generalizing kvs vs with
  | nil => intro q; exact q
  | @cons p q ps qs h t ih =>
    intro r0
    have e : KV (putK kvs p.1 p.2) (stored vs q.1 q.2) := by
      have := r0.put p.1 h.2
      rw [← h.1]; exact this
    exact ih e
theorem length_mergeK : ∀ (more kvs : List (Key × V)), (mergeK kvs more).length ≤ kvs.length + more.length
  | [], kvs => by show kvs.length ≤ kvs.length + 0; omega
  | p :: r, kvs => by
    have h1 := length_mergeK r (putK kvs p.1 p.2)
    have h2 := length_putK kvs p.1 p.2
    show (mergeK (putK kvs p.1 p.2) r).length ≤ _
    rw [List.length_cons]; omega
theorem carries_of {P : Program} {w : World} : ∀ {kvs : List (Key × V)} {ws : List (Value × Value)}, VV (kvs.map fun kv => (kV kv.1, kv.2)) ws → ∃ rs, Carries (mixKind P w) ws rs ∧ KV kvs rs
  | [], _, r => by rw [List.map_nil] at r; cases r; exact ⟨[], True.intro, .nil⟩
  | p :: kvs, _, r => by
    rw [List.map_cons] at r
    cases r with
    | @cons a b as bs h t =>
      obtain ⟨rs, c, q⟩ := carries_of (P := P) (w := w) t
      obtain ⟨b1, b2⟩ := b
      exact ⟨(p.1, b2) :: rs, ⟨kV_is h.1, rfl, c⟩, .cons ⟨rfl, h.2⟩ q⟩
/-- {k: v, ..} with keys ints and texts; the new dict stands empty while the pairs are made -/
def tDisp (trs : List (TE × TE)) : TE := fun σ H Q => ∀ p, H p = none → tPairs trs σ (upd H p (.dK [])) fun ps H2 => H2 p = some (.dK []) ∧ ∃ kvs : List (Key × V), ps = kvs.map (fun kv => (kV kv.1, kv.2)) ∧ kvs.length ≤ 15 ∧ Q (.ref p) (upd H2 p (.dK (mergeK [] kvs)))
theorem pe_disp {X : Cx} {pos : Pos} {keys : List (Option Expr)} {values : List Expr} {trs : List (TE × TE)} (h : PPs X pos keys values trs) (hall : keys.all (·.isSome) = true) (hl : keys.length = values.length) (h0 : keys ≠ [])
    (h15 : keys.length ≤ 15) : PE X (.Dict keys values pos) (tDisp trs) := by
  intro pins s σ H Q I q
  have hn := I.hok.fresh (Nat.le_refl s.heap.objs.size)
  have I1 := I.laid (a := s.heap.objs.size) (o := .dK []) (h' := s.heap.push { cls := .type "dict", data := .dict #[] }) (t' := s.toks) (fun _ _ q => Heap.get?_push_of_some _ q) (Nat.le_refl _) (dk_empty s.heap I.big)
  refine wpAny_Dict_walk (knd := mixKind X.prog X.w) hall hl h0 h15 (thn (h pins _ σ _ _ I1 (q _ hn)) fun ws s2 ⟨ps, H2, I2, rel, e, kvs, ep, lk, q2⟩ => ?_)
  subst ep
  obtain ⟨rs, c, rk⟩ := carries_of (P := X.prog) (w := X.w) rel
  obtain ⟨z, hd, vs0, r0, dd⟩ := dk_of I2.hok e
  cases r0
  refine ⟨rs, c, dd, fun h' dd' hs => ⟨.ref s.heap.objs.size, _, ?_, rfl, q2⟩⟩
  have hz : (mergeK [] kvs).length ≤ sizeLine := by
    have h1 := length_mergeK kvs []
    rw [List.length_nil] at h1
    rw [sizeLine_eq]; omega
  have he : ∃ q, h'.get? s.heap.objs.size = some q := let ⟨q, _, _, hq, _⟩ := dd'; ⟨q, hq⟩
  exact d_write I2 (by rw [e]; exact True.intro) hs he (dk_new hz hd (rk.merge .nil) dd')


/-! ### methods -/
/-- a method call o.m(e) of a built-in, with one argument: what must be seen of the text -/
structure M1 (X : Cx) (o : Expr) (m : Str) (apos : Pos) (e : Expr) (cpos : Pos) : Prop where
  base : attributeBase o m X.env (eval o X.env) = eval o X.env
  few : ((backTo cpos (starEach [e] X.env)).all (fun x => !x.1) && (backToKw cpos (keywordEach [] X.env)).all (fun x => x.1.isSome)
    && decide (([e] : List Expr).length + ([] : List Keyword).length + (if ([] : List Keyword).isEmpty then 0 else 1) < 30)) = true
  line : (apos.endLine == cpos.line) = true
  trees : backTo cpos (starEach [e] X.env) = [(false, eval e X.env)]
structure M2 (X : Cx) (o : Expr) (m : Str) (apos : Pos) (e f : Expr) (cpos : Pos) : Prop where
  base : attributeBase o m X.env (eval o X.env) = eval o X.env
  few : ((backTo cpos (starEach [e, f] X.env)).all (fun x => !x.1) && (backToKw cpos (keywordEach [] X.env)).all (fun x => x.1.isSome)
    && decide (([e, f] : List Expr).length + ([] : List Keyword).length + (if ([] : List Keyword).isEmpty then 0 else 1) < 30)) = true
  line : (apos.endLine == cpos.line) = true
  trees : backTo cpos (starEach [e, f] X.env) = [(false, eval e X.env), (false, eval f X.env)]

/-- a is a dict, whatever its keys -/
def IsD (H : Hp) (a : Addr) : Prop := (∃ kvs, Rd H a (.dK kvs)) ∨ ∃ kvs, Rd H a (.dT kvs)
theorem isD_at {X : Cx} {pins : List (Addr × Obj)} {σ : St} {H : Hp} {s : Shared} {a : Addr} (I : Inv X pins σ H s) (d : IsD H a) :
    s.TypeIs (.ref a) "dict" ∧ (∀ b, Value.ref a = .ref b → ∃ ob, s.heap.get? b = some ob ∧ ob.dict = none) ∧ (a == sysModules) = false := by
  rcases d with ⟨kvs, e⟩ | ⟨kvs, e⟩
  · obtain ⟨_, hd, vs, _, dd⟩ := dk_rd I.hok e
    refine ⟨dd.typeIs, fun b q => ?_, hd⟩
    cases q
    obtain ⟨ob, _, _, h1, h2, _⟩ := dd
    exact ⟨ob, h1, h2.2.1⟩
  · obtain ⟨_, hd, xs, _, dd⟩ := dt_rd I.hok e
    refine ⟨dd.typeIs, fun b q => ?_, hd⟩
    cases q
    obtain ⟨ob, _, _, h1, h2, _⟩ := dd
    exact ⟨ob, h1, h2.2.1⟩

section
variable {X : Cx} {pins : List (Addr × Obj)} {σ : St} {H : Hp} {s : Shared} {a : Addr} {y d : V} {u r : Value} {o : Option V} {A : Around} {E : Value → Shared → Prop}
/-- d.get(y) -/
theorem d_get1 {Q : Value → Shared → Prop} (hu : A.units + 1 < cLine) (I : Inv X pins σ H s) (g : DGet H a y o) (ry : RelV y u) (h : ∀ w' s', Inv X pins σ H s' → RelV (o.getD .non) w' → Q w' s') :
    wpAny (model X.prog X.w) A (call (.builtin "dict.get") [.ref a, u]) Q E s := by
  rcases g with ⟨kvs, k, e, ey, l⟩ | ⟨kvs, k, b, e, ey, eb, l⟩
  · subst ey
    obtain ⟨z, hd, vs, rel, dd⟩ := dk_rd I.hok e
    refine call_meetsIn PySem.F.slot_dict_get dd.typeIs PySem.F.entry_dict_get (PySem.F.args_dict_get_2 _ _) (meets_dict_get (mixKind X.prog X.w) a (kV_is ry) hd) ⟨_, dd.mapOf, h _ _ (I.tok _) ?_⟩
    rw [l]
    exact (rel.val k).getD rfl
  · subst ey
    cases (show u = Value.ref b from ry)
    obtain ⟨z, hd, xs, rel, dd⟩ := dt_rd I.hok e
    refine call_meetsIn PySem.F.slot_dict_get dd.typeIs PySem.F.entry_dict_get (PySem.F.args_dict_get_2 _ _) (meetsH_dict_get (tupleKind (mixKind X.prog X.w)) a b hd) ⟨tupleKind_room_in1 hu, k, xs, key_of I.hok eb, dd, h _ _ (I.tok _) ?_⟩
    rw [l]
    exact (rel.val k).getD rfl
/-- d.get(y, x) -/
theorem d_get2 {Q : Value → Shared → Prop} (hu : A.units + 1 < cLine) (I : Inv X pins σ H s) (g : DGet H a y o) (ry : RelV y u) (rd : RelV d r) (h : ∀ w' s', Inv X pins σ H s' → RelV (o.getD d) w' → Q w' s') :
    wpAny (model X.prog X.w) A (call (.builtin "dict.get") [.ref a, u, r]) Q E s := by
  rcases g with ⟨kvs, k, e, ey, l⟩ | ⟨kvs, k, b, e, ey, eb, l⟩
  · subst ey
    obtain ⟨z, hd, vs, rel, dd⟩ := dk_rd I.hok e
    refine call_meetsIn PySem.F.slot_dict_get dd.typeIs PySem.F.entry_dict_get (PySem.F.args_dict_get_3 _ _ _) (meets_dict_get_default (mixKind X.prog X.w) a (kV_is ry) hd r) ⟨_, dd.mapOf, h _ _ (I.tok _) ?_⟩
    rw [l]
    exact (rel.val k).getD rd
  · subst ey
    cases (show u = Value.ref b from ry)
    obtain ⟨z, hd, xs, rel, dd⟩ := dt_rd I.hok e
    refine call_meetsIn PySem.F.slot_dict_get dd.typeIs PySem.F.entry_dict_get (PySem.F.args_dict_get_3 _ _ _) (meetsH_dict_get_default (tupleKind (mixKind X.prog X.w)) a b hd r) ⟨tupleKind_room_in1 hu, k, xs, key_of I.hok eb, dd, h _ _ (I.tok _) ?_⟩
    rw [l]
    exact (rel.val k).getD rd
end

def tDGet1 (td ty : TE) : TE := fun σ H Q => td σ H fun x H1 => ∃ a, x = .ref a ∧ IsD H1 a ∧ ty σ H1 fun y H2 => ∃ o, DGet H2 a y o ∧ Q (o.getD .non) H2
def tDGet2 (td ty tx : TE) : TE := fun σ H Q => td σ H fun x H1 => ∃ a, x = .ref a ∧ IsD H1 a ∧ ty σ H1 fun y H2 => tx σ H2 fun z H3 => ∃ o, DGet H3 a y o ∧ Q (o.getD z) H3
/-- d.pop(k): there; d.pop(k, x): there or not -/
def tDPop1 (td ty : TE) : TE := fun σ H Q => td σ H fun x H1 => ∃ a, x = .ref a ∧ IsD H1 a ∧ ty σ H1 fun y H2 => ∃ kvs k v, H2 a = some (.dK kvs) ∧ y = kV k ∧ valV kvs k = some v ∧ Q v (upd H2 a (.dK (dropK kvs k)))
def tDPop2 (td ty tx : TE) : TE := fun σ H Q => td σ H fun x H1 => ∃ a, x = .ref a ∧ IsD H1 a ∧ ty σ H1 fun y H2 => tx σ H2 fun z H3 => ∃ kvs k, H3 a = some (.dK kvs) ∧ y = kV k ∧
  (∀ v, valV kvs k = some v → Q v (upd H3 a (.dK (dropK kvs k)))) ∧ (valV kvs k = none → Q z H3)
section
variable {X : Cx} {o e f : Expr} {apos cpos : Pos} {td ty tx : TE}
theorem pe_dget1 (hu : X.A.units + 1 < cLine) (ho : PE X o td) (he : PE X e ty) (m : M1 X o "get" apos e cpos) : PE X (.Call (.Attribute o "get" apos) [e] [] cpos) (tDGet1 td ty) := by
  intro pins s σ H Q I h
  refine wpAny_Call_method m.base m.few m.line PySem.F.plainAttrs_dict PySem.F.slot_dict_get PySem.F.type_dict_get (thn (ho pins s σ H _ I h) fun u s1 ⟨x, H1, I1, rx, a, ex, d, q1⟩ => ?_)
  subst ex
  obtain rfl : u = Value.ref a := rx
  obtain ⟨t1, t2, _⟩ := isD_at I1 d
  refine ⟨t1, t2, ?_⟩
  rw [m.trees]
  refine Calls.callWith_builtin rfl (Calls.evalArgs_plain (Calls.spliced_cons (thn (he pins s1 σ H1 _ I1 q1) fun iv s2 ⟨y, H2, I2, ry, ov, g, q2⟩ => Calls.spliced_nil ?_)))
  exact d_get1 hu I2 g ry fun w' s3 I3 rw' => ⟨_, H2, I3, rw', q2⟩
theorem pe_dget2 (hu : X.A.units + 1 < cLine) (ho : PE X o td) (he : PE X e ty) (hf : PE X f tx) (m : M2 X o "get" apos e f cpos) : PE X (.Call (.Attribute o "get" apos) [e, f] [] cpos) (tDGet2 td ty tx) := by
  intro pins s σ H Q I h
  refine wpAny_Call_method m.base m.few m.line PySem.F.plainAttrs_dict PySem.F.slot_dict_get PySem.F.type_dict_get (thn (ho pins s σ H _ I h) fun u s1 ⟨x, H1, I1, rx, a, ex, d, q1⟩ => ?_)
  subst ex
  obtain rfl : u = Value.ref a := rx
  obtain ⟨t1, t2, _⟩ := isD_at I1 d
  refine ⟨t1, t2, ?_⟩
  rw [m.trees]
  refine Calls.callWith_builtin rfl (Calls.evalArgs_plain (Calls.spliced_cons (thn (he pins s1 σ H1 _ I1 q1) fun iv s2 ⟨y, H2, I2, ry, q2⟩ =>
    Calls.spliced_cons (thn (hf pins s2 σ H2 _ I2 q2) fun fv s3 ⟨z, H3, I3, rz, ov, g, q3⟩ => Calls.spliced_nil ?_))))
  exact d_get2 hu I3 g ry rz fun w' s4 I4 rw' => ⟨_, H3, I4, rw', q3⟩
theorem pe_dpop1 (ho : PE X o td) (he : PE X e ty) (m : M1 X o "pop" apos e cpos) : PE X (.Call (.Attribute o "pop" apos) [e] [] cpos) (tDPop1 td ty) := by
  intro pins s σ H Q I h
  refine wpAny_Call_method m.base m.few m.line PySem.F.plainAttrs_dict PySem.F.slot_dict_pop PySem.F.type_dict_pop (thn (ho pins s σ H _ I h) fun u s1 ⟨x, H1, I1, rx, a, ex, d, q1⟩ => ?_)
  subst ex
  obtain rfl : u = Value.ref a := rx
  obtain ⟨t1, t2, _⟩ := isD_at I1 d
  refine ⟨t1, t2, ?_⟩
  rw [m.trees]
  refine Calls.callWith_builtin rfl (Calls.evalArgs_plain (Calls.spliced_cons (thn (he pins s1 σ H1 _ I1 q1) fun iv s2 ⟨y, H2, I2, ry, kvs, k, v, ea, ey, l, q2⟩ => Calls.spliced_nil ?_)))
  subst ey
  exact d_pop I2 ea ry l (.inl rfl) fun w' s3 I3 rw' => ⟨v, _, I3, rw', q2⟩
theorem pe_dpop2 (ho : PE X o td) (he : PE X e ty) (hf : PE X f tx) (m : M2 X o "pop" apos e f cpos) : PE X (.Call (.Attribute o "pop" apos) [e, f] [] cpos) (tDPop2 td ty tx) := by
  intro pins s σ H Q I h
  refine wpAny_Call_method m.base m.few m.line PySem.F.plainAttrs_dict PySem.F.slot_dict_pop PySem.F.type_dict_pop (thn (ho pins s σ H _ I h) fun u s1 ⟨x, H1, I1, rx, a, ex, d, q1⟩ => ?_)
  subst ex
  obtain rfl : u = Value.ref a := rx
  obtain ⟨t1, t2, _⟩ := isD_at I1 d
  refine ⟨t1, t2, ?_⟩
  rw [m.trees]
  refine Calls.callWith_builtin rfl (Calls.evalArgs_plain (Calls.spliced_cons (thn (he pins s1 σ H1 _ I1 q1) fun iv s2 ⟨y, H2, I2, ry, q2⟩ =>
    Calls.spliced_cons (thn (hf pins s2 σ H2 _ I2 q2) fun fv s3 ⟨z, H3, I3, rz, kvs, k, ea, ey, q3, q4⟩ => Calls.spliced_nil ?_))))
  subst ey
  cases l : valV kvs k with
  | some v => exact d_pop I3 ea ry l (.inr ⟨fv, rfl⟩) fun w' s4 I4 rw' => ⟨v, _, I4, rw', q3 v l⟩
  | none => exact d_popD I3 ea ry l fun s4 I4 => ⟨z, H3, I4, rz, q4 l⟩
end

/-! ### dict(d): a copy -/
section
variable {X : Cx} {pins : List (Addr × Obj)} {σ : St} {H : Hp} {s : Shared} {a : Addr} {kvs : List (Key × V)} {A : Around} {E : Value → Shared → Prop}
theorem d_copyOf {Q : Value → Shared → Prop} (I : Inv X pins σ H s) (e : Rd H a (.dK kvs)) (h : ∀ p s', H p = none → Inv X pins σ (upd H p (.dK kvs)) s' → Q (.ref p) s') : wpAny (model X.prog X.w) A (call (.type "dict") [.ref a]) Q E s := by
  obtain ⟨z, hd, vs, rel, dd⟩ := dk_rd I.hok e
  refine kt_call_dict hd dd (by rw [← rel.length]; exact z) fun h' dd' hs => ?_
  refine h _ _ (I.hok.fresh (Nat.le_refl _)) (I.laid (a := s.heap.objs.size) (o := .dK kvs) (t' := s.toks) (fun b q hq => ?_) (Nat.le_refl _) (dk_new z (beq_eq_false_iff_ne.mpr (Ne.symm (Nat.ne_of_lt I.big))) rel dd'))
  exact (hs.2 b (Nat.ne_of_lt (Heap.lt_size hq))).trans (Heap.get?_push_of_some _ hq)
end


section
variable {X : Cx} {pins : List (Addr × Obj)} {σ : St} {H : Hp} {s : Shared} {a : Addr} {y : V} {u : Value} {A : Around} {E : Value → Shared → Prop}
/-- d[y], not there: a KeyError -/
theorem d_missing {Q : Value → Shared → Prop} (hu : A.units + 1 < cLine) (hh : A.handled = none) (I : Inv X pins σ H s) (g : DGet H a y none) (ry : RelV y u)
    (h : ∀ h' e t', Heap.NewExc s.heap h' e "KeyError" → E (.ref e) { s with heap := h', toks := t' }) : wpAny (model X.prog X.w) A (getItem (.ref a) u) Q E s := by
  rcases g with ⟨kvs, k, e, ey, l⟩ | ⟨kvs, k, b, e, ey, eb, l⟩
  · subst ey
    obtain ⟨z, hd, vs, rel, dd⟩ := dk_rd I.hok e
    have hn : valueAt vs k = none := RelO.none_of (by rw [l]; exact rel.val k)
    exact wpAny_getItem_missing_of (kV_is ry) hd hh dd.mapOf hn fun h' ex ne => h h' ex _ ne
  · subst ey
    cases (show u = Value.ref b from ry)
    obtain ⟨z, hd, xs, rel, dd⟩ := dt_rd I.hok e
    have hn : (atKey xs k).map (·.2) = none := RelO.none_of (by rw [l]; exact rel.val k)
    exact wpAny_getItem_missing_heap (tupleKind_room_in1 hu) (key_of I.hok eb) hd hh dd (Option.map_eq_none_iff.mp hn) fun h' ex ne => h h' ex _ ne
end
end L2

namespace L2
open PySem PySem.Spec PyProof.Rows

theorem list_keys_none : typeLookup (.type "list") "keys" = pure none := am_miss_of_fast (by first | decide +kernel | rfl)
theorem ud_entry : entryFor table "dict.update.loop" = some Builtin.«dict.update.loop» := entryFor_of_tree (by kernel_rfl)
theorem ud_plain : plainId "dict.update.loop" = true := by decide +kernel

section
variable {prog : Program} {w : World} {A : Around} {E : Value → Shared → Prop}
/-- a list has no attribute 'keys': an AttributeError is made, and forgotten -/
theorem miss_list {s : Shared} {a : Addr} {o : Obj} {xs : Array Value} {k : Nat} {Q : Option Value → Shared → Prop} (hx : s.heap.get? a = some o) (hc : o.cls = .type "list") (hdat : o.data = .seq xs k) (hd : o.dict = none) (hA : A.handled = none)
    (h : ∀ h' tk, (∀ b ob, s.heap.get? b = some ob → h'.get? b = some ob) → Q none { s with heap := h', toks := tk }) : wpAny (model prog w) A (getAttr? (.ref a) "keys") Q E s := by
  obtain ⟨c, dct, dat, sl⟩ := o
  simp only at hc hdat hd
  subst hc hdat hd
  obtain ⟨hp, g, d, tk, os⟩ := s
  have hT : ∀ tk', (⟨hp, g, d, tk', os⟩ : Shared).TypeIs (.ref a) "list" := fun _ => ⟨_, hx, rfl⟩
  have hmiss := list_keys_none
  have hname : (["__module__", "__name__", "__qualname__", "__doc__", "__annotations__"] : List Str).contains "keys" = false := by decide +kernel
  have hsz : ("keys" : Str).length + 100 ≤ sizeLine := by first | size_fits | decide +kernel
  have f1 := sub_AttributeError
  have f3 := PySem.F.slot_list_getattribute.lookup
  have f4 := PySem.F.slot_list_getattribute.bind (.ref a)
  have f5 := am_list_getattr_none
  unfold getAttr? getAttrBy? getAttrBy
  repeat (any_goals (first | assumption | exact hT _ | ((with_reducible show wpAny _ _ (call (Value.builtin "list.__getattribute__") _ _) _ _ _); refine call_meets PySem.F.slot_list_getattribute (hT _) am_entry_list_getattribute (PySem.F.args_list_getattribute_2 _ _) (meets_getattribute_miss_list a xs k sl "keys" _ hmiss hname hsz) ⟨hx, hA, fun h' tk' e hx' => ?_⟩) | wp_step))
  obtain ⟨t', u', he⟩ := hx'.there
  show wpAny _ _ (getattributeRaised _ _ _ _ _ _ _) _ _ _
  unfold getattributeRaised
  repeat (any_goals (first | assumption | wp_step))
  all_goals first | exact h _ _ hx'.keeps | (dsimp only; repeat (any_goals (first | assumption | exact h _ _ hx'.keeps | wp_step)))

/-- the walk over the pairs -/
theorem upd_loop {R : Result → Shared → Prop} {S I l : Addr} {items : Array Value} {res : Value} (hh : A.handled = none) (hlI : l ≠ I) (hSI : S ≠ I) (hSl : S ≠ l) :
    ∀ (rest : List (Key × Value)) (i : Nat) (acc : List (Key × Value)) (ix : Int) (t : Tok) (s : Shared), items.size = i + rest.length → acc.length + rest.length ≤ sizeLine →
      (∀ (j : Nat) (q : Key × Value), rest[j]? = some q → ∃ (b : Addr) (u : Value), items[i + j]? = some (.ref b) ∧ b ≠ S ∧ b ≠ I ∧ IsTup s.heap b #[u, q.2] ∧ keyIs q.1 u = true) →
      s.heap.IsListIter I l i → s.heap.IsList l items → s.heap.DictOf (mixKind prog w) S acc →
      (∀ h' tk, h'.DictOf (mixKind prog w) S (merged acc rest) → (∀ b o, b ≠ S → b ≠ I → s.heap.get? b = some o → h'.get? b = some o) → R (.ok (.ret res)) { s with heap := h', toks := tk }) →
      codeAny (model prog w) A (.builtin "dict.update.loop" ⟨[.ref S, .ref I, .int ix t, res], []⟩) R s
  | [], i, acc, ix, t, s, hsz, hln, ht, hit, hl, hm, hR => by
    refine codeAny_builtin ud_entry ?_
    rw [Around.under_plainId ud_plain _]
    show wpAny _ A.in1 (pyNext (.ref I) >>= _) _ _ s
    refine wpAny_bind (wpAny_pyNext_list_end (A := A.in1) hh hit hl (by first | exact Array.getElem?_eq_none (Nat.le_of_eq hsz) | (simp at hsz; simp; omega)) fun h' he => ?_)
    show wpAny _ A.in1 (Builtin.Dict.addKeywords S [] >>= _) _ _ _
    refine wpAny_bind (wpAny_pure (wpAny_pure ?_))
    exact hR h' s.toks (hm.extBut he hSI) fun b o _ hb e => he b o hb e
  | q :: rest, i, acc, ix, t, s, hsz, hln, ht, hit, hl, hm, hR => by
    obtain ⟨b, u, hb, hbS, hbI, htup, hk⟩ := ht 0 q rfl
    rw [List.length_cons] at hsz hln
    refine codeAny_builtin ud_entry ?_
    rw [Around.under_plainId ud_plain _]
    show wpAny _ A.in1 (pyNext (.ref I) >>= _) _ _ s
    refine wpAny_bind (wpAny_pyNext_list_item (x := .ref b) hit hl (by simpa using hb) fun h1 hit1 hs1 => ?_)
    have ht1 : IsTup h1 b #[u, q.2] := htup.extBut hs1.extBut hbI
    have hl1 : h1.IsList l items := hl.extBut hs1.extBut hlI
    have hm1 : h1.DictOf (mixKind prog w) S acc := hm.extBut hs1.extBut hSI
    obtain ⟨o, ho, hc, n, hd⟩ := id ht1
    show wpAny _ A.in1 (holding [Value.ref b] _ >>= _) _ _ _
    refine wpAny_bind (wpAny_holding ?_)
    refine wpAny_bind (wpAny_tryCatch ?_)
    unfold Builtin.Dict.pairItems
    refine wpAny_bind (wpAny_typeOf (T := "tuple") ⟨o, ho, hc⟩ ?_)
    rw [if_pos (by first | decide | rfl | simp)]
    refine wpAny_bind (wpAny_seqItems ho hd (wpAny_pure ?_))
    show wpAny _ A.in1 (holding [u, q.2] (dictSet S u q.2)) _ _ _
    refine wpAny_holding (wpAny_dictSet_pairs (knd := mixKind prog w) (k := q.1) hk hm1 (fun h2 hm2 hs2 => ?_) (by omega))
    refine wpAny_pure ⟨plainId_quiet ud_plain _, upd_loop (items := items) hh hlI hSI hSl rest (i + 1) (stored acc q.1 q.2) (ix + 1) 0 _ (show items.size = i + 1 + rest.length by omega) ?_ (fun j q' e => ?_) ?_ ?_ hm2 fun h' tk hd' k => ?_⟩
    · have z := stored_length_le acc q.1 q.2
      omega
    · obtain ⟨b', u', hb', hbS', hbI', htup', hk'⟩ := ht (j + 1) q' (by simpa using e)
      refine ⟨b', u', ?_, hbS', hbI', (htup'.extBut hs1.extBut hbI').extBut hs2.extBut hbS', hk'⟩
      rw [show i + 1 + j = i + (j + 1) by omega]
      exact hb'
    · exact hit1.at fun o' e => hs2.extBut I o' (Ne.symm hSI) e
    · exact hl1.extBut hs2.extBut (Ne.symm hSl)
    · exact hR h' tk hd' fun c oc h3 h4 e => k c oc h3 h4 (hs2.extBut c oc h3 (hs1.extBut c oc h4 e))

/-- dict(l) of a list of pairs -/
theorem call_dict_pairs {s : Shared} {l : Addr} {ol : Obj} {items : Array Value} {n : Nat} {prs : List (Key × Value)} {Q : Value → Shared → Prop} (hh : A.handled = none) (hl : s.heap.get? l = some ol) (hc : ol.cls = .type "list") (hd : ol.dict = none)
    (hdat : ol.data = .seq items n) (hsz : items.size = prs.length) (hln : prs.length ≤ sizeLine)
    (ht : ∀ (j : Nat) (q : Key × Value), prs[j]? = some q → ∃ (b : Addr) (u : Value), items[j]? = some (.ref b) ∧ IsTup s.heap b #[u, q.2] ∧ keyIs q.1 u = true)
    (h : ∀ h' tk, h'.DictOf (mixKind prog w) s.heap.objs.size (merged [] prs) → (∀ b o, s.heap.get? b = some o → h'.get? b = some o) → Q (.ref s.heap.objs.size) { s with heap := h', toks := tk }) :
    wpAny (model prog w) A (call (.type "dict") [.ref l]) Q E s := by
  refine callType_codes (Q₁ := fun obj s₁ => obj = .ref s.heap.objs.size ∧ s₁ = { s with heap := s.heap.push { cls := .type "dict", data := .dict #[] } }) PySem.F.kt_called_dict (PySem.F.kt_typeCall_dict_1 _) PySem.F.entry_dict_init (kt_code_dict_new _ ⟨rfl, rfl⟩) ?_
  rintro obj s₁ ⟨rfl, rfl⟩
  have hnew : (s.heap.push { cls := .type "dict", data := .dict #[] }).DictOf (mixKind prog w) s.heap.objs.size [] := Heap.DictOf.new s.heap
  have k0 : ∀ b o, s.heap.get? b = some o → (s.heap.push { cls := .type "dict", data := .dict #[] }).get? b = some o := fun b o e => Heap.get?_push_of_some _ e
  refine ⟨hnew.typeIs, PySem.F.args_dict_init_2 _ _, ?_⟩
  unfold Builtin.«dict.__init__»
  refine wpAny_bind ?_
  unfold Builtin.Dict.selfAndRest
  refine wpAny_bind (wpAny_notOrdered_dict hnew.typeIs ?_)
  show wpAny _ _ (pure (s.heap.objs.size, [Value.ref l])) _ _ _
  refine wpAny_pure ?_
  show wpAny _ _ (Builtin.Dict.updateFrom "dict.__init__" s.heap.objs.size (.ref l) [] .none) _ _ _
  unfold Builtin.Dict.updateFrom
  refine wpAny_bind (wpAny_typeOf (T := "list") ⟨ol, k0 _ _ hl, hc⟩ ?_)
  rw [if_pos (by first | decide | rfl | simp)]
  refine wpAny_bind (miss_list (k0 _ _ hl) hc hdat hd hh fun h1 tk1 hk1 => ?_)
  rw [if_pos (show (none : Option Value).isNone = true from rfl)]
  refine wpAny_bind (wpAny_rule ?_)
  have hl1 : h1.IsList l items := ⟨ol, hk1 _ _ (k0 _ _ hl), hc, n, hdat⟩
  have hS1 : s.heap.objs.size < h1.objs.size := by
    have e : (s.heap.push { cls := .type "dict", data := .dict #[] }).get? s.heap.objs.size = some { cls := .type "dict", data := .dict #[] } := Heap.get?_push_size _ rfl
    exact Heap.lt_size (hk1 _ _ e)
  refine wpAny_bind (wpAny_pyIter_list hl1 ?_)
  have k2 : ∀ b o, h1.get? b = some o → (h1.push { cls := .type "list_iterator", data := .fields #[.ref l, .int 0 0] }).get? b = some o := fun b o e => Heap.get?_push_of_some _ e
  have hlt : l < s.heap.objs.size := Heap.lt_size hl
  have key := upd_loop (prog := prog) (w := w) (A := A.in1) (R := wants (fun r s₂ => r = .none ∧ Q (.ref s.heap.objs.size) s₂) E) (S := s.heap.objs.size) (I := h1.objs.size) (l := l) (items := items) (res := Value.none) hh
    (Nat.ne_of_lt (Nat.lt_trans hlt hS1)) (Nat.ne_of_lt hS1) (Nat.ne_of_gt hlt) prs 0 [] 0 0
    { s with heap := h1.push { cls := .type "list_iterator", data := .fields #[.ref l, .int 0 0] }, toks := tk1 } (by rw [hsz, Nat.zero_add]) (by rw [List.length_nil, Nat.zero_add]; exact hln)
    (fun j q e => by
      obtain ⟨b, u, e1, e2, e3⟩ := ht j q e
      have hb : b < s.heap.objs.size := e2.lt
      exact ⟨b, u, by rw [Nat.zero_add]; exact e1, Nat.ne_of_lt hb, Nat.ne_of_lt (Nat.lt_trans hb hS1), e2.keeps fun c o z => k2 _ _ (hk1 _ _ (k0 _ _ z)), e3⟩)
    ⟨_, Heap.get?_push_size _ rfl, rfl, rfl⟩ (hl1.at fun o e => k2 _ _ e) ((hnew.at fun o e => hk1 _ _ e).at fun o e => k2 _ _ e)
    (fun h' tk hd' k => ⟨rfl, h h' tk hd' fun b o e => k b o (Nat.ne_of_lt (Heap.lt_size e)) (Nat.ne_of_lt (Nat.lt_trans (Heap.lt_size e) hS1)) (k2 _ _ (hk1 _ _ (k0 _ _ e)))⟩)
  first
    | exact wpAny_pure ⟨plainId_quiet ud_plain _, key⟩
    | exact wpAny_bind (wpAny_pure (wpAny_pure ⟨plainId_quiet ud_plain _, key⟩))
end

section
variable {X : Cx}
theorem pairs_of {pins : List (Addr × Obj)} {σ : St} {H : Hp} {s : Shared} (I : Inv X pins σ H s) : ∀ {ps : List Addr} {kvs : List (Key × V)}, Paired (fun p kv => SqT X.K H p [kV kv.1, kv.2]) ps kvs →
    ∃ prs : List (Key × Value), KV kvs prs ∧ prs.length = ps.length ∧ ∀ (j : Nat) (q : Key × Value), prs[j]? = some q → ∃ (b : Addr) (u : Value), ps[j]? = some b ∧ IsTup s.heap b #[u, q.2] ∧ keyIs q.1 u = true
  | _, _, .nil => ⟨[], .nil, rfl, fun j q e => by simp at e⟩
  | _, _, .cons (a := p) (b := kv) h t => by
    obtain ⟨prs, r, hl, hp⟩ := pairs_of I t
    obtain ⟨its, rv, ht, _⟩ := I.tuple h
    obtain ⟨u, y, ei, ru, ry⟩ := vals2 rv
    subst ei
    refine ⟨(kv.1, y) :: prs, .cons ⟨rfl, ry⟩ r, by rw [List.length_cons, List.length_cons, hl], fun j q e => ?_⟩
    cases j with
    | zero =>
      have e' : (kv.1, y) = q := Option.some.inj e
      subst e'
      exact ⟨p, u, rfl, ht, kV_is (P := X.prog) (w := X.w) ru⟩
    | succ j =>
      obtain ⟨b, u', e1, e2, e3⟩ := hp j q (by simpa using e)
      exact ⟨b, u', by simpa using e1, e2, e3⟩
theorem refs_at : ∀ {ps : List Addr} {us : List Value}, Vals (ps.map V.ref) us → us = ps.map Value.ref
  | [], us, r => by
    rw [List.map_nil] at r
    cases r
    rfl
  | p :: ps, us, r => by
    rw [List.map_cons] at r
    cases r with
    | cons h t =>
      cases h
      rw [List.map_cons, ← refs_at t]
/-- dict(xs) of a list of pairs (key, value): later pairs win, the place is the first one's -/
theorem call_dictP (hcalm : X.calm = true) : CallR X (.type "dict") (fun xs H Q => ∃ (a : Addr) (ps : List Addr) (kvs : List (Key × V)), xs = [.ref a] ∧ SqL X.K H a (ps.map V.ref) ∧ Paired (fun p kv => SqT X.K H p [kV kv.1, kv.2]) ps kvs ∧
    ∀ p, H p = none → Q (.ref p) (upd H p (.dK (mergeK [] kvs)))) := by
  intro pins s σ H xs us Q I r q
  obtain ⟨a, ps, kvs, ex, hq, hp, q⟩ := q
  subst ex
  obtain ⟨u, eu, rx⟩ := vals1 r
  subst eu
  cases rx
  obtain ⟨its, rv, pl, hz⟩ := I.list hq
  have ei := refs_at rv
  subst ei
  rw [List.length_map] at hz
  obtain ⟨prs, rel, hl, hpr⟩ := pairs_of I hp
  obtain ⟨o, n, ho, hc, hd, hdat⟩ := pl
  refine call_dict_pairs (prs := prs) (I.ok.hd hcalm) ho hc hd hdat (by simp [hl]) (by rw [hl]; exact hz) (fun j q' e => ?_) fun h' tk hd' k => ?_
  · obtain ⟨b, u, e1, e2, e3⟩ := hpr j q' e
    exact ⟨b, u, by simp [e1], e2, e3⟩
  · have hm : (s.heap.objs.size == sysModules) = false := beq_eq_false_iff_ne.mpr (Nat.ne_of_gt I.big)
    have hlen : (mergeK [] kvs).length ≤ sizeLine := by
      refine Nat.le_trans (length_mergeK kvs []) ?_
      rw [List.length_nil, Nat.zero_add, rel.length, hl]
      exact hz
    exact ⟨.ref s.heap.objs.size, upd H s.heap.objs.size (.dK (mergeK [] kvs)), I.laid (t' := tk) k (Nat.le_refl _) (show ObjOk X.prog X.w _ _ _ (.dK (mergeK [] kvs)) from ⟨hlen, hm, merged [] prs, KV.merge rel .nil, hd'⟩), rfl, q _ (I.hok.fresh (Nat.le_refl _))⟩
end
end L2

namespace L2
open PySem PySem.Spec PyProof.Rows

theorem boot_reversed5 : bootBuiltins "reversed" = some (.type "reversed") := by decide +kernel

section
variable {X : Cx} {pins : List (Addr × Obj)} {σ : St} {H : Hp} {s : Shared} {h' : Heap}
/-- several records of ours have turned -/
theorem Inv.turnedL {t' : Nat} {ch : List Addr} (I : Inv X pins σ H s) (k : ∀ b o, b ∉ ch → s.heap.get? b = some o → h'.get? b = some o) (hf : ∀ b ∈ ch, FpOk X pins H b) : Inv X pins σ H { s with heap := h', toks := t' } := by
  have nit : ∀ b u, H b = some u → b ∉ ch := fun b u e z => by
    have q := (hf b z).1
    rw [q] at e; cases e
  refine I.step (g' := s.gens) (d' := s.drawn) (ch := ch) (fun b hb => ⟨(hf b hb).2.2.2.1, (hf b hb).2.1, (hf b hb).2.2.2.2.1, (hf b hb).2.2.2.2.2⟩) (fun b o _ _ hc e _ => k b o hc e) (fun b o _ _ hc e _ => ⟨o.slots, k b o hc e⟩)
    (fun _ _ _ _ n => n) (fun b o hc e => ⟨o, k b o hc e⟩) (fun _ _ e => e) (fun _ _ _ e => e) (fun b ps e => ⟨#[], by rw [e]; simp⟩) (fun m hm => ?_) (fun b u e => ?_) I.bare
  · obtain ⟨o, es, ep, ho, r⟩ := hm
    exact ⟨o, es, ep, k _ o (fun z => (hf _ z).2.1 rfl) ho, r⟩
  · refine (I.hok b u e).stay (fun c v hc q => k c v ?_ q) (fun _ q => q) fun _ _ q => q
    rcases hc with z | z
    · rw [z]; exact nit b u e
    · exact nit c _ z
/-- .. and one new object is laid -/
theorem Inv.turnedNew {t' : Nat} {ch : List Addr} {T : Addr} {ob : HO} (I : Inv X pins σ H s) (k : ∀ b o, b ∉ ch → s.heap.get? b = some o → h'.get? b = some o) (hf : ∀ b ∈ ch, FpOk X pins H b) (hT : s.heap.objs.size ≤ T)
    (new : ObjOk X.prog X.w (upd H T ob) h' T ob) : Inv X pins σ (upd H T ob) { s with heap := h', toks := t' } := by
  have hn : H T = none := I.hok.fresh hT
  have nit : ∀ b u, H b = some u → b ∉ ch := fun b u e z => by
    have q := (hf b z).1
    rw [q] at e; cases e
  refine I.step (g' := s.gens) (d' := s.drawn) (ch := ch) (fun b hb => ⟨(hf b hb).2.2.2.1, (hf b hb).2.1, (hf b hb).2.2.2.2.1, (hf b hb).2.2.2.2.2⟩) (fun b o _ _ hc e _ => k b o hc e) (fun b o _ _ hc e _ => ⟨o.slots, k b o hc e⟩)
    (fun b o _ e n => ?_) (fun b o hc e => ⟨o, k b o hc e⟩) (fun b xs e => ?_) (fun b o u e => ?_) (fun b ps e => ⟨#[], ?_⟩) (fun m hm => ?_) (fun b u e => ?_) I.bare
  · rw [upd_ne (Nat.ne_of_lt (Nat.lt_of_lt_of_le (Heap.lt_size e) hT))]; exact n
  · rw [upd_ne (ne_of_none e hn)]; exact e
  · rw [upd_ne (ne_of_none e hn)]; exact e
  · rw [upd_ne (ne_of_none e hn), e]; simp
  · obtain ⟨o, es, ep, ho, r⟩ := hm
    exact ⟨o, es, ep, k _ o (fun z => (hf _ z).2.1 rfl) ho, r⟩
  · by_cases hb : b = T
    · subst hb
      rw [upd_same] at e
      cases e
      exact new
    · rw [upd_ne hb] at e
      refine (I.hok b u e).stay (fun c v hc q => k c v ?_ q) (fun c q => by rw [upd_ne (ne_of_none q hn)]; exact q) fun c xs q => by rw [upd_ne (ne_of_none q hn)]; exact q
      rcases hc with z | z
      · rw [z]; exact nit b u e
      · exact nit c _ z

/-! ### locking a thing while a statement runs -/
theorem Inv.lock {d : Addr} {u : HO} (I : Inv X pins σ H s) (h : H d = some u) (mu : Mut (some u)) : ∃ od, Inv X pins σ (upd H d (.frz od u)) s := by
  have x := I.hok d u h
  have ex : ∃ od, s.heap.get? d = some od := by
    cases u with
    | lst xs => obtain ⟨_, _, _, _, e⟩ := x; exact ⟨_, e⟩
    | dK kvs => obtain ⟨_, _, _, _, o, _, _, e, _⟩ := x; exact ⟨o, e⟩
    | dT kvs => obtain ⟨_, _, _, _, o, _, _, e, _⟩ := x; exact ⟨o, e⟩
    | set S n => obtain ⟨o, _, _, _, e, _⟩ := x; exact ⟨o, e⟩
    | ins C dx fs => obtain ⟨_, _, _, e, _⟩ := x; exact ⟨_, e⟩
    | ext φ => obtain ⟨_, ⟨_, e⟩, _⟩ := x; exact ⟨_, e⟩
    | _ => exact False.elim mu
  obtain ⟨od, e⟩ := ex
  have new : ObjOk X.prog X.w (upd H d (.frz od u)) s.heap d (.frz od u) := by
    refine ⟨e, x.stay (fun b v _ q => q) (fun b q => ?_) fun b xs q => ?_⟩
    · rw [upd_ne (fun z => by rw [z, h] at q; cases q; exact mu)]; exact q
    · rw [upd_ne (fun z => by rw [z, h] at q; cases q; exact mu)]; exact q
  exact ⟨od, I.write (x := d) (e := d) (t' := s.toks) (h' := s.heap) (by rw [h]; exact mu) (.inl rfl) (fun b v _ q => q) ⟨od, e⟩ new⟩
theorem Inv.nofrz {d : Addr} {u : HO} (I : Inv X pins σ H s) (h : H d = some u) (mu : Mut (some u)) : ∀ o' u', X.H_0 d ≠ some (.frz o' u') := fun o' u' e => by
  have q := I.base.frzs d o' u' e
  rw [h] at q
  cases q
  exact mu
theorem Inv.unlock {d : Addr} {od : Obj} {u : HO} (I : Inv X pins σ H s) (h : H d = some (.frz od u)) (hn : ∀ o' u', X.H_0 d ≠ some (.frz o' u')) : Inv X pins σ (upd H d u) s := by
  have neH : ∀ b o, H b = some o → (∀ o' u', o ≠ .frz o' u') → b ≠ d := fun b o e hne z => by
    rw [z, h] at e
    cases e
    exact hne _ _ rfl
  have neN : ∀ b, H b = none → b ≠ d := fun b e z => by rw [z, h] at e; cases e
  refine ⟨I.ok, I.os, I.bare, ⟨I.base.keep, I.base.slot, fun b o e n hx => ?_, I.base.there, fun b xs e => ?_, fun b o x e => ?_, fun b ps e => ?_⟩, I.loc, I.cell, ?_, fun x c e => ?_, fun p hp => ?_, fun b o e => ?_, I.len⟩
  · rw [upd_ne (neN b (I.base.free b o e n hx))]; exact I.base.free b o e n hx
  · have q := I.base.tups b xs e
    rw [upd_ne (neH b _ q (fun _ _ z => nomatch z))]; exact q
  · have q := I.base.frzs b o x e
    rw [upd_ne (fun z => by rw [z] at e; exact hn _ _ e)]; exact q
  · obtain ⟨m, q⟩ := I.base.tbls b ps e
    exact ⟨m, by rw [upd_ne (neH b _ q (fun _ _ z => nomatch z))]; exact q⟩
  · rw [upd_ne (neN _ I.free)]; exact I.free
  · rw [upd_ne (neN c (I.freeC x c e))]; exact I.freeC x c e
  · obtain ⟨e, n, r⟩ := I.pin p hp
    exact ⟨e, by rw [upd_ne (neN _ n)]; exact n, r⟩
  · by_cases hb : b = d
    · rw [hb, upd_same] at e
      cases e
      rw [hb]
      obtain ⟨_, x⟩ := I.hok d _ h
      exact x.stay (fun c v _ q => q) (fun c q => by rw [upd_ne (neH c _ q (fun _ _ z => nomatch z))]; exact q) fun c xs q => by rw [upd_ne (neH c _ q (fun _ _ z => nomatch z))]; exact q
    · rw [upd_ne hb] at e
      exact (I.hok b o e).stay (fun c v _ q => q) (fun c q => by rw [upd_ne (neH c _ q (fun _ _ z => nomatch z))]; exact q) fun c xs q => by rw [upd_ne (neH c _ q (fun _ _ z => nomatch z))]; exact q
end
/-- the statement runs while the thing at d is locked (read, not written); d and what stands there are the reading's choice -/
def tLock (t : TS) : TS := fun D σ H => ∃ d u, H d = some u ∧ Mut (some u) ∧ ∀ od, t ⟨fun σ' H' => H' d = some (.frz od u) ∧ D.nx σ' (upd H' d u), fun v H' => H' d = some (.frz od u) ∧ D.rt v (upd H' d u), fun σ' H' => H' d = some (.frz od u) ∧ D.bk σ' (upd H' d u), fun σ' H' => H' d = some (.frz od u) ∧ D.ct σ' (upd H' d u)⟩ σ (upd H d (.frz od u))
def tLockE (t : TE) : TE := fun σ H Q => ∃ d u, H d = some u ∧ Mut (some u) ∧ ∀ od, t σ (upd H d (.frz od u)) fun v H' => H' d = some (.frz od u) ∧ Q v (upd H' d u)
section
variable {X : Cx}
theorem ps_lock {st : Stmt} {t : TS} (h : PS X st t) : PS X st (tLock t) := by
  intro pins s σ H D I hw
  obtain ⟨d, u, hd, mu, hw⟩ := hw
  obtain ⟨od, I1⟩ := I.lock hd mu
  refine thn (h pins s σ _ _ I1 (hw od)) fun f s1 q => ?_
  cases f with
  | next => obtain ⟨σ', H', I2, e, q⟩ := q; exact ⟨σ', _, I2.unlock e (I.nofrz hd mu), q⟩
  | brk => obtain ⟨σ', H', I2, e, q⟩ := q; exact ⟨σ', _, I2.unlock e (I.nofrz hd mu), q⟩
  | cont => obtain ⟨σ', H', I2, e, q⟩ := q; exact ⟨σ', _, I2.unlock e (I.nofrz hd mu), q⟩
  | ret v => obtain ⟨x, σ', H', I2, r, e, q⟩ := q; exact ⟨x, σ', _, I2.unlock e (I.nofrz hd mu), r, q⟩
theorem pe_lock {e : Expr} {t : TE} (h : PE X e t) : PE X e (tLockE t) := by
  intro pins s σ H Q I hw
  obtain ⟨d, u, hd, mu, hw⟩ := hw
  obtain ⟨od, I1⟩ := I.lock hd mu
  refine thn (h pins s σ _ _ I1 (hw od)) fun v s1 ⟨x, H1, I2, r, e2, q⟩ => ?_
  exact ⟨x, _, I2.unlock e2 (I.nofrz hd mu), r, q⟩

/-! ### one iterator just laid -/
theorem pi_one {tg : Expr} {pins : List (Addr × Obj)} {σ : St} {H : Hp} {s : Shared} {R : It → Hp → Prop} {J : It} {tn : Nat → Heap → Prop} {tk : Nat} (I : Inv X pins σ H s) (o : Obj)
    (T : Turn X.prog X.w X.K tg J [s.heap.objs.size] s.heap.objs.size tn) (st : tn 0 (s.heap.push o)) (q : R J H) : PIE X pins σ tg R (.ref s.heap.objs.size) { s with heap := s.heap.push o, toks := tk } := by
  refine ⟨s.heap.objs.size, [s.heap.objs.size], tn, J, H, rfl, I.kept fun b ob e => Heap.get?_push_of_some _ e, T, st, fun b hb => ?_, q⟩
  have e : b = s.heap.objs.size := by simpa using hb
  subst e
  exact I.fpOk (Nat.le_refl _) (I.hok.fresh (Nat.le_refl _))
end

/-! ### range with a step -/
/-- lo, lo + c, .. (n of them) -/
def Itc (lo c : Int) (n : Nat) : It := ⟨fun i _ => i < n, fun i H x H' => H' = H ∧ x = .int (lo + (i : Nat) * c), fun i _ => n ≤ i⟩
theorem turn_rangeC {P : Program} {w : World} {K : PySem.W.Frag} {tg : Expr} (it : Addr) (lo c : Int) (n : Nat) : Turn P w K tg (Itc lo c n) [it] it (fun i h => IsRangeIter h it (lo + (i : Nat) * c) ((n : Int) - (i : Nat)) c) where
  mem := by simp
  obj := fun i h st b hb => by
    have e : b = it := by simpa using hb
    subst e
    exact ⟨_, st, fun v z => nomatch z⟩
  keep := fun i h h' st k => k it (by simp) _ st
  item := by
    intro X hP hw hK hc i pins s σ H E I hf st hg
    subst hP hw hK
    obtain ⟨f0, f1, f2, f3, f4, f5⟩ := hf it (by simp)
    have W := Walks.range (prog := X.prog) (w := X.w) (I.ok.hd hc) it lo c n
    refine W.item i s _ _ hg st fun v h' tk hv st' kk => ?_
    obtain ⟨t, rfl⟩ := hv
    have I1 : Inv X pins σ H { s with heap := h', toks := tk } := I.turned (fun b o hb e => kk b o (by simpa using hb) e) f0 f1 f3 f4 f5
    exact ⟨_, rfl, go_of (s := { s with heap := h', toks := tk }) (n := "range_iterator") st' rfl rfl (by decide) ⟨.int (lo + (i : Nat) * c), H, I1, ⟨t, rfl⟩, ⟨rfl, rfl⟩, st', fun b hb => (hf b hb).1⟩⟩
  done := by
    intro X hP hw hK hc i pins s σ H E I hf st hg
    subst hP hw hK
    obtain ⟨f0, f1, f2, f3, f4, f5⟩ := hf it (by simp)
    exact wpAny_pyNext_range_end (I.ok.hd hc) st (by have : n ≤ i := hg; omega) fun h' eb => ⟨rfl, I.turned (t' := s.toks) (fun b o hb e => eb b o hb e) f0 f1 f3 f4 f5⟩
  self := fun A i s Q E st h => wpAny_pyIter_rangeiter st h
/-- range(i, j, c): small bounds, n items -/
def RgC (i j c : Int) (n : Nat) : Prop := c ≠ 0 ∧ c.natAbs < 1073741824 ∧ Builtin.Range.small i j c = true ∧ Builtin.Range.rangeSize i j c = n
theorem RgC.neg {i j : Int} (ha : -(2 ^ 62) ≤ i) (ha' : i < 2 ^ 62) (hb : -(2 ^ 62) ≤ j) (hb' : j < 2 ^ 62) : RgC i j (-1) (i - j).toNat :=
  ⟨by decide, by decide, PySem.W.small_down ha ha' hb hb', PySem.W.rangeSize_downNat i j⟩
def iRng3 (ta : TA) : TI := fun σ H R => ta σ H fun vs H1 => ∃ (i j c : Int) (n : Nat), vs = [.int i, .int j, .int c] ∧ RgC i j c n ∧ R (Itc i c n) H1
section
variable {X : Cx} {tg : Expr}
theorem pi_range3 {a b c : Expr} {ta : TA} {p pos : Pos} (hg : Gl X "range") (hm : X.mg "range" = none) (ha : PA X [a, b, c] ta)
    (hs : starEach [a, b, c] X.env = (false, eval a X.env) :: starEach [b, c] X.env := by rfl) (hpl : (backTo pos (starEach [b, c] X.env)).any (·.1) = false := by rfl) :
    PI X tg (.Call (.Name "range" p) [a, b, c] [] pos) (iRng3 ta) := by
  intro pins s σ H R I h
  refine Call_ (ld_blt I hg hm boot_range (PyProof.Rows.callWith_type1 (thn (ha pos pins s σ H _ I h) fun us s1 ⟨vs, H1, I1, r1, q1⟩ => ?_) hs hpl))
  obtain ⟨i, j, k, n, e, ⟨c0, c1, c2, c3⟩, q⟩ := q1
  subst e
  cases r1 with
  | cons r rr =>
    cases rr with
    | cons r' rr =>
      cases rr with
      | cons r'' rr =>
        cases rr
        obtain ⟨t, rfl⟩ := r
        obtain ⟨t', rfl⟩ := r'
        obtain ⟨t'', rfl⟩ := r''
        refine call_range_3 c0 ?_ (.inl (PyProof.noPylong_small c1))
        refine wpAny_pyIter_range (IsRange.new ..) c2 ?_
        have I2 : Inv X pins σ H1 { s1 with heap := s1.heap.push { cls := .type "range", data := .fields #[.int i t, .int j t', .int k t''] } } := I1.kept (t' := s1.toks) fun b o e => Heap.get?_push_of_some _ e
        refine pi_one (tk := s1.toks) I2 _ (turn_rangeC _ i k n) ?_ q
        have e1 : i + ((0 : Nat) : Int) * k = i := by simp
        have e2 : (n : Int) - ((0 : Nat) : Int) = Builtin.Range.rangeSize i j k := by rw [c3]; simp
        show IsRangeIter _ _ (i + ((0 : Nat) : Int) * k) ((n : Int) - ((0 : Nat) : Int)) k
        rw [e1, e2]
        exact Heap.get?_push_size _ rfl
end
/-- the turns of a step range, for the for loop -/
theorem for_rangeC {lo c : Int} {n : Nat} {g : TG} {tb : TS} {D : Ends} {σ : St} {H : Hp} (Pv : Nat → St → Hp → Prop) (h0 : Pv 0 σ H)
    (hs : ∀ i σ H, i < n → Pv i σ H → g (.int (lo + (i : Nat) * c)) σ H fun σ2 H2 => tb { D with nx := Pv (i + 1), ct := Pv (i + 1), bk := D.nx } σ2 H2) (hd : ∀ σ H, Pv n σ H → D.nx σ H) :
    ∃ W : Nat → Nat → St → Hp → Prop, (∃ m, W 0 m σ H) ∧ ∀ i m σ H, W i m σ H →
      ((Itc lo c n).stop i H ∧ D.nx σ H) ∨ ((Itc lo c n).go i H ∧ ∃ N : St → Hp → Prop, (∀ σ' H', N σ' H' → ∃ m', m' < m ∧ W (i + 1) m' σ' H') ∧ ∀ x H', (Itc lo c n).yld i H x H' → g x σ H' fun σ2 H2 => tb { D with nx := N, ct := N, bk := D.nx } σ2 H2) := by
  refine ⟨fun i m σ H => m = n - i ∧ i ≤ n ∧ Pv i σ H, ⟨n, by simp, Nat.zero_le _, h0⟩, ?_⟩
  rintro i m σ H ⟨rfl, hi, p⟩
  by_cases hlt : i < n
  · refine .inr ⟨hlt, Pv (i + 1), fun σ' H' p' => ⟨n - (i + 1), by omega, rfl, hlt, p'⟩, fun x H' y => ?_⟩
    obtain ⟨e, y⟩ := y
    subst e y
    exact hs i σ _ hlt p
  · have e : i = n := by omega
    subst e
    exact .inl ⟨Nat.le_refl _, hd σ H p⟩

/-! ### reversed(list) -/
/-- the list at a (n items at the start, which the loop leaves there), from its end -/
def Itv (K : PySem.W.Frag) (a : Addr) (n : Nat) : It :=
  ⟨fun i H => i < n ∧ ∃ (xs : List V) (x : V), SqL K H a xs ∧ xs[n - 1 - i]? = some x, fun i H x H' => H' = H ∧ ∀ xs, SqL K H a xs → xs[n - 1 - i]? = some x, fun i _ => n ≤ i⟩
theorem turn_rev {P : Program} {w : World} {K : PySem.W.Frag} {tg : Expr} (a it : Addr) (n : Nat) : Turn P w K tg (Itv K a n) [it] it (fun i h => i ≤ n ∧ h.IsRevIter it a ((n : Int) - 1 - (i : Nat))) where
  mem := by simp
  obj := fun i h st b hb => by
    have e : b = it := by simpa using hb
    subst e
    obtain ⟨_, o, e, c, d⟩ := st
    exact ⟨o, e, fun v z => by rw [d] at z; cases z⟩
  keep := fun i h h' st k => ⟨st.1, st.2.at fun o e => k it (by simp) o e⟩
  item := by
    intro X hP hw hK hc i pins s σ H E I hf st hg
    subst hP hw hK
    obtain ⟨hin, xs, x, hq, hx⟩ := hg
    obtain ⟨its, rv, p, hz⟩ := I.list hq
    obtain ⟨u, hu, ru⟩ := rv.get hx
    obtain ⟨f0, f1, f2, f3, f4, f5⟩ := hf it (by simp)
    obtain ⟨_, hit⟩ := st
    have e1 : (n : Int) - 1 - ((i : Nat) : Int) = ((n - 1 - i : Nat) : Int) := by omega
    rw [e1] at hit
    refine wpAny_pyNext_rev_item hit p.isList (x := u) (by simpa using hu) fun h' st' sb => ?_
    have e2 : ((n - 1 - i : Nat) : Int) - 1 = (n : Int) - 1 - ((i + 1 : Nat) : Int) := by omega
    rw [e2] at st'
    have I1 : Inv X pins σ H { s with heap := h' } := I.turned (t' := s.toks) (fun b o hb e => (sb.2 b hb).trans e) f0 f1 f3 f4 f5
    obtain ⟨o, e, c, d⟩ := id st'
    exact ⟨u, rfl, go_of (s := { s with heap := h' }) e c d (by decide) ⟨x, H, I1, ru, ⟨rfl, fun ys hy => by rw [I.list_inj hy hq]; exact hx⟩, ⟨hin, st'⟩, fun b hb => (hf b hb).1⟩⟩
  done := by
    intro X hP hw hK hc i pins s σ H E I hf st hg
    subst hP hw hK
    obtain ⟨f0, f1, f2, f3, f4, f5⟩ := hf it (by simp)
    obtain ⟨hin, hit⟩ := st
    have hge : n ≤ i := hg
    have e1 : (n : Int) - 1 - ((i : Nat) : Int) = -1 := by omega
    rw [e1] at hit
    exact wpAny_pyNext_rev_end (I.ok.hd hc) hit fun h' eb => ⟨rfl, I.turned (t' := s.toks) (fun b o hb e => eb b o hb e) f0 f1 f3 f4 f5⟩
  self := fun A i s Q E st h => wpAny_pyIter_revIter st.2 h
def iRev (K : PySem.W.Frag) (ta : TA) : TI := fun σ H R => ta σ H fun vs H1 => ∃ (a : Addr) (xs : List V), vs = [.ref a] ∧ SqL K H1 a xs ∧ R (Itv K a xs.length) H1
section
variable {X : Cx} {tg : Expr}
theorem pi_reversed {e : Expr} {ta : TA} {p pos : Pos} (hg : Gl X "reversed") (hm : X.mg "reversed" = none) (ha : PA X [e] ta) (hs : starEach [e] X.env = [(false, eval e X.env)] := by rfl) : PI X tg (.Call (.Name "reversed" p) [e] [] pos) (iRev X.K ta) := by
  intro pins s σ H R I h
  refine Call_ (ld_blt I hg hm boot_reversed5 (PyProof.Rows.callWith_type1 (thn (ha pos pins s σ H _ I h) fun us s1 ⟨vs, H1, I1, r1, q1⟩ => ?_) hs rfl))
  obtain ⟨a, xs, e, hq, q⟩ := q1
  subst e
  cases r1 with
  | cons r rr =>
    cases rr
    cases r
    obtain ⟨its, rv, p', hz⟩ := I1.list hq
    have hl := rv.length
    have e1 : ((its.toArray.size : Nat) : Int) - 1 = (xs.length : Int) - 1 - ((0 : Nat) : Int) := by simp only [List.size_toArray]; omega
    refine call_reversed_list p'.isList (wpAny_pyIter_revIter (l := a) (i := ((its.toArray.size : Nat) : Int) - 1) ⟨_, Heap.get?_push_size _ rfl, rfl, rfl⟩ ?_)
    refine pi_one (tk := s1.toks) I1 _ (turn_rev a _ xs.length) ⟨Nat.zero_le _, ?_⟩ q
    rw [← e1]
    exact ⟨_, Heap.get?_push_size _ rfl, rfl, rfl⟩
end

/-! ### a str -/
def Its (x : Str) : It := ⟨fun i _ => i < x.cps.size, fun i H v H' => H' = H ∧ ∃ c, x.cps[i]? = some c ∧ v = .str ⟨#[c]⟩, fun i _ => x.cps.size ≤ i⟩
theorem turn_str {P : Program} {w : World} {K : PySem.W.Frag} {tg : Expr} (it : Addr) (x : Str) (t : Tok) (ty : String) (hty : ty = "str_ascii_iterator" ∨ ty = "str_iterator") :
    Turn P w K tg (Its x) [it] it (fun i h => h.IsStrIter it ty x t i) where
  mem := by simp
  obj := fun i h st b hb => by
    have e : b = it := by simpa using hb
    subst e
    obtain ⟨o, e, c, d⟩ := st
    exact ⟨o, e, fun v z => by rw [d] at z; cases z⟩
  keep := fun i h h' st k => let ⟨o, ho, r⟩ := st; ⟨o, k it (by simp) o ho, r⟩
  item := by
    intro X hP hw hK hc i pins s σ H E I hf st hg
    subst hP hw hK
    obtain ⟨f0, f1, f2, f3, f4, f5⟩ := hf it (by simp)
    have W : Walks X.prog X.w X.A it [it] [it] x.cps.size (SignAt x) (fun i h => h.IsStrIter it ty x t i) := by
      rcases hty with e | e
      · rw [e]; exact Walks.strAscii (I.ok.hd hc) it x t
      · rw [e]; exact Walks.strWide (I.ok.hd hc) it x t
    have hno : ["enumerate", "zip", "dict_itemiterator", "dict_reverseitemiterator", "odict_iterator", "itertools.zip_longest", "itertools.pairwise"].contains ty = false := by
      rcases hty with e | e
      · rw [e]; decide
      · rw [e]; decide
    refine W.item i s _ _ hg st fun v h' tk hv st' kk => ?_
    obtain ⟨c, u, hcx, rfl⟩ := hv
    have I1 : Inv X pins σ H { s with heap := h', toks := tk } := I.turned (fun b o hb e => kk b o (by simpa using hb) e) f0 f1 f3 f4 f5
    obtain ⟨oi, e, cc, dd⟩ := id st'
    exact ⟨_, rfl, go_of (s := { s with heap := h', toks := tk }) e cc dd hno ⟨.str ⟨#[c]⟩, H, I1, ⟨u, rfl⟩, ⟨rfl, c, hcx, rfl⟩, st', fun b hb => (hf b hb).1⟩⟩
  done := by
    intro X hP hw hK hc i pins s σ H E I hf st hg
    subst hP hw hK
    obtain ⟨f0, f1, f2, f3, f4, f5⟩ := hf it (by simp)
    have hx : x.cps[i]? = none := Array.getElem?_eq_none hg
    rcases hty with e | e
    · rw [e] at st
      exact wpAny_pyNext_ascii_end (I.ok.hd hc) st hx fun h' eb => ⟨rfl, I.turned (t' := s.toks) (fun b o hb e => eb b o hb e) f0 f1 f3 f4 f5⟩
    · rw [e] at st
      exact wpAny_pyNext_wide_end (I.ok.hd hc) st hx fun h' eb => ⟨rfl, I.turned (t' := s.toks) (fun b o hb e => eb b o hb e) f0 f1 f3 f4 f5⟩
  self := fun A i s Q E st h => by
    rcases hty with e | e
    · rw [e] at st; exact wpAny_pyIter_striter_ascii st h
    · rw [e] at st; exact wpAny_pyIter_striter_wide st h
def iStr (te : TE) : TI := fun σ H R => te σ H fun v H1 => ∃ x, v = .str x ∧ R (Its x) H1
theorem pi_str {X : Cx} {tg e : Expr} {te : TE} (he : PE X e te) : PI X tg e (iStr te) := by
  intro pins s σ H R I h
  refine thn (he pins s σ H _ I h) fun v s1 ⟨y, H1, I1, r1, x, ex, q⟩ => ?_
  subst ex
  obtain ⟨t, rfl⟩ := r1
  cases ha : x.cps.all (· < 128)
  · exact wpAny_pyIter_wide ha (pi_one (tk := s1.toks) I1 _ (turn_str _ x t "str_iterator" (.inr rfl)) ⟨_, Heap.get?_push_size _ rfl, rfl, rfl⟩ q)
  · exact wpAny_pyIter_ascii ha (pi_one (tk := s1.toks) I1 _ (turn_str _ x t "str_ascii_iterator" (.inl rfl)) ⟨_, Heap.get?_push_size _ rfl, rfl, rfl⟩ q)

/-! ### a dict's keys: any dict's entries -/
section
variable {prog : Program} {w : World} {A : Around} {E : Value → Shared → Prop} {s : Shared}
theorem iter_keys {d : Addr} {o : Obj} {es : Array DictEntry} {ep : Nat} {Q : Value → Shared → Prop} (hd : (d == sysModules) = false) (ho : s.heap.get? d = some o) (hc : o.ExactDict) (hdat : o.data = .dict es ep)
    (hQ : Q (.ref s.heap.objs.size) { s with heap := s.heap.push { cls := .type "dict_keyiterator", data := .fields #[.ref d, .int 0 0, .int es.size 0, .int ep 0] } }) :
    wpAny (model prog w) A (pyIter (.ref d)) Q E s := by
  have hT : s.TypeIs (.ref d) "dict" := ⟨o, ho, hc.1⟩
  refine wpAny_pyIter_slot hT F.slot_dict_iter (wpAny_call_entry F.slot_dict_iter hT F.entry_dict_iter ?_ (F.args_dict_iter_1 _))
  unfold Builtin.«dict.__iter__»
  refine wpAny_bind ?_
  unfold Builtin.Dict.dictSlotNone
  refine wpAny_bind (wpAny_notOrdered_dict hT ?_)
  show wpAny _ _ (pure (Value.ref d)) _ _ s
  refine wpAny_pure ?_
  show wpAny _ _ (Builtin.Dict.showsAll d >>= _) _ _ s
  unfold Builtin.Dict.showsAll
  rw [if_neg (by rw [hd]; exact Bool.false_ne_true)]
  refine wpAny_bind (wpAny_pure ?_)
  refine wpAny_bind (wpAny_dictEntries ho hdat ?_)
  refine wpAny_bind (wpAny_dictEpoch ho hdat ?_)
  refine wpAny_bind (wpAny_newObj_type (wpAny_pure ⟨_, rfl, "dict_keyiterator", _, ⟨_, Heap.get?_push_size _ rfl, rfl⟩, F.slot_dict_keyiterator_next.lookup, ?_⟩))
  simpa [rawInt] using hQ
theorem next_key_item {it d : Addr} {i n ep : Nat} {od : Obj} {es : Array DictEntry} {en : DictEntry} {Q : Option Value → Shared → Prop} (hit : s.heap.IsKeyIter it d i n ep) (hod : s.heap.get? d = some od) (hdd : od.data = .dict es ep)
    (hsz : es.size = n) (hx : es[i]? = some en) (hQ : ∀ h', h'.IsKeyIter it d (i + 1) n ep → Heap.SameBut it s.heap h' → Q (some en.key) { s with heap := h' }) : wpAny (model prog w) A (pyNext (.ref it)) Q E s := by
  obtain ⟨o, ho, hc, hd⟩ := id hit
  unfold pyNext
  refine wpAny_bind (wpAny_attempt (wpAny_callSpecial?_slot (name := Str.ofString "__next__") hit.typeIs F.slot_dict_keyiterator_next
    (wpAny_call_entry F.slot_dict_keyiterator_next hit.typeIs F.entry_dict_keyiterator_next ?_ (F.args_dict_keyiterator_next_1 _))))
  refine wpAny_bind (wpAny_pure ?_)
  refine wpAny_bind ?_
  refine wpAny_bind ?_
  first | refine wpAny_bind (wpAny_typeNameOfWhole_keyiter hit.typeIs (wpAny_pure ?_)) | refine wpAny_bind (wpAny_typeNameOf_keyiter hit.typeIs (wpAny_pure ?_))
  refine wpAny_bind (wpAny_fieldsOf ho hd ?_)
  have hown : Builtin.Dict_items.ownsTuple "dict_keyiterator" = false := by decide
  simp only [hown, Bool.false_eq_true, if_false]
  show wpAny _ _ (if (Value.ref d == Value.none) = true then _ else _) _ _ s
  rw [if_neg (show ¬ ((Value.ref d == Value.none) = true) from Bool.false_ne_true)]
  refine wpAny_bind (wpAny_pure ?_)
  refine wpAny_bind (wpAny_dictEntries hod hdd ?_)
  rw [if_neg (by rw [hsz]; simp)]
  refine wpAny_bind (wpAny_pure ?_)
  refine wpAny_bind (wpAny_dictEpoch hod hdd ?_)
  rw [if_neg (by simp)]
  refine wpAny_pure ?_
  obtain ⟨hlt', hen⟩ := Array.getElem?_eq_some_iff.mp hx
  simp only [show ¬ ((i : Int) < 0) from by omega, if_false, Int.toNat_natCast, Array.getElem?_eq_getElem hlt']
  refine wpAny_bind ?_
  first | refine wpAny_bind (wpAny_typeNameOfWhole_keyiter hit.typeIs (wpAny_pure ?_)) | refine wpAny_bind (wpAny_typeNameOf_keyiter hit.typeIs (wpAny_pure ?_))
  refine wpAny_bind (wpAny_isOneOf_keyiter hit.typeIs ?_)
  show wpAny _ _ (setField (.ref it) 1 (rawInt ((i : Int) + 1)) >>= _) _ _ s
  refine wpAny_bind (wpAny_setField ho hd (by simp) ?_)
  have hit' : (s.heap.update it (Obj.mapFields (·.setIfInBounds 1 (rawInt ((i : Int) + 1))))).IsKeyIter it d (i + 1) n ep :=
    ⟨_, Heap.get?_update_self _ ho (Obj.isFreed_of_fields (Obj.data_mapFields hd _)), (Obj.cls_mapFields ..).trans hc, by rw [Obj.data_mapFields hd]; simp [rawInt]⟩
  refine wpAny_bind (wpAny_holding ?_)
  refine wpAny_bind (wpAny_isOneOf_keyiter (s := { s with heap := s.heap.update it (Obj.mapFields (·.setIfInBounds 1 (rawInt ((i : Int) + 1)))) }) hit'.typeIs ?_)
  show wpAny _ _ (pure es[i].key) _ _ _
  rw [hen]
  exact wpAny_pure (wpAny_pure ⟨_, rfl, wpAny_pure (hQ _ hit' (Heap.SameBut.update ..))⟩)
theorem next_key_end {it d : Addr} {i n ep : Nat} {od : Obj} {es : Array DictEntry} {Q : Option Value → Shared → Prop} (hh : A.handled = none) (hit : s.heap.IsKeyIter it d i n ep) (hod : s.heap.get? d = some od) (hdd : od.data = .dict es ep)
    (hsz : es.size = n) (hge : n ≤ i) (hQ : ∀ h', Heap.ExtBut it s.heap h' → Q none { s with heap := h' }) : wpAny (model prog w) A (pyNext (.ref it)) Q E s := by
  obtain ⟨o, ho, hc, hd⟩ := id hit
  unfold pyNext
  refine wpAny_bind (wpAny_attempt (wpAny_callSpecial?_slot (name := Str.ofString "__next__") hit.typeIs F.slot_dict_keyiterator_next
    (wpAny_call_entry F.slot_dict_keyiterator_next hit.typeIs F.entry_dict_keyiterator_next ?_ (F.args_dict_keyiterator_next_1 _))))
  refine wpAny_bind (wpAny_pure ?_)
  refine wpAny_bind ?_
  refine wpAny_bind ?_
  first | refine wpAny_bind (wpAny_typeNameOfWhole_keyiter hit.typeIs (wpAny_pure ?_)) | refine wpAny_bind (wpAny_typeNameOf_keyiter hit.typeIs (wpAny_pure ?_))
  refine wpAny_bind (wpAny_fieldsOf ho hd ?_)
  have hown : Builtin.Dict_items.ownsTuple "dict_keyiterator" = false := by decide
  simp only [hown, Bool.false_eq_true, if_false]
  show wpAny _ _ (if (Value.ref d == Value.none) = true then _ else _) _ _ s
  rw [if_neg (show ¬ ((Value.ref d == Value.none) = true) from Bool.false_ne_true)]
  refine wpAny_bind (wpAny_pure ?_)
  refine wpAny_bind (wpAny_dictEntries hod hdd ?_)
  rw [if_neg (by rw [hsz]; simp)]
  refine wpAny_bind (wpAny_pure ?_)
  refine wpAny_bind (wpAny_dictEpoch hod hdd ?_)
  rw [if_neg (by simp)]
  refine wpAny_pure ?_
  have hge' : es.size ≤ i := by rw [hsz]; exact hge
  simp only [show ¬ ((i : Int) < 0) from by omega, if_false, Int.toNat_natCast, Array.getElem?_eq_none hge']
  refine wpAny_bind ?_
  first | refine wpAny_bind (wpAny_typeNameOfWhole_keyiter hit.typeIs (wpAny_pure ?_)) | refine wpAny_bind (wpAny_typeNameOf_keyiter hit.typeIs (wpAny_pure ?_))
  show wpAny _ _ (setField (.ref it) 0 .none >>= _) _ _ s
  refine wpAny_bind (wpAny_setField ho hd (by simp) ?_)
  show wpAny _ _ (newExc (.type "StopIteration") [] >>= _) _ _ _
  refine wpAny_bind ?_
  simp only [newExc, newTuple]
  refine wpAny_bind (wpAny_newObj_type ?_ (by size_fits))
  refine wpAny_bind (m := firstArgMember _ _) (wpAny_of_eq (a := Value.none) (by first | rfl | (simp only [firstArgMember]; rfl)) ?_)
  refine wpAny_newObj_type ?_ (by size_fits)
  simp only [raiseNew]
  refine wpAny_bind (wpAny_handled ?_)
  rw [show A.in1.handled = none from hh]
  refine wpAny_bind (wpAny_pure (wpAny_throw ?_))
  refine wpAny_bind (wpAny_isInstance (T := "StopIteration") (b := true) ⟨_, Heap.get?_push_size _ rfl, rfl⟩ isSubtype_stop ?_)
  exact wpAny_pure (hQ _ (((Heap.SameBut.update ..).extBut.push _).push _))
end

/-! ### a locked dict -/
theorem kv_get {κ : Type} {kvs : List (κ × V)} {vs : List (κ × Value)} (h : KV kvs vs) : ∀ {i : Nat} {k : κ} {v : V}, kvs[i]? = some (k, v) → ∃ u, vs[i]? = some (k, u) ∧ RelV v u := by
  unfold KV at h
  induction h with
  | nil => intro i k v e; simp at e
  | @cons a b l₁ l₂ r t ih =>
    intro i k v e
    cases i with
    | zero =>
      simp only [List.getElem?_cons_zero, Option.some.injEq] at e
      subst e
      refine ⟨b.2, ?_, r.2⟩
      simp only [List.getElem?_cons_zero]
      exact congrArg some (Prod.ext r.1.symm rfl)
    | succ j =>
      simp only [List.getElem?_cons_succ] at e ⊢
      exact ih e
theorem paired_get {α β : Type} {G : α → β → Prop} {l₁ : List α} {l₂ : List β} (h : Paired G l₁ l₂) : ∀ {i : Nat} {a : α}, l₁[i]? = some a → ∃ b, l₂[i]? = some b ∧ G a b := by
  induction h with
  | nil => intro i a e; simp at e
  | @cons a b l₁ l₂ r t ih =>
    intro i a' e
    cases i with
    | zero =>
      simp only [List.getElem?_cons_zero, Option.some.injEq] at e
      subst e
      exact ⟨b, rfl, r⟩
    | succ j =>
      simp only [List.getElem?_cons_succ] at e ⊢
      exact ih e
theorem relV_key {k : Key} {u : Value} (h : keyIs k u = true) : RelV (kV k) u := by
  rcases keyIs_shape h with ⟨i, t, rfl, rfl⟩ | ⟨x, t, rfl, rfl⟩
  · exact ⟨t, rfl⟩
  · exact ⟨t, rfl⟩
section
variable {X : Cx} {pins : List (Addr × Obj)} {σ : St} {H : Hp} {s : Shared} {d : Addr} {o : Obj}
theorem Inv.frzK {kvs : List (Key × V)} (I : Inv X pins σ H s) (h : H d = some (.frz o (.dK kvs))) :
    (d == sysModules) = false ∧ s.heap.get? d = some o ∧ o.ExactDict ∧ ∃ (es : Array DictEntry) (ep : Nat) (vs : List (Key × Value)), o.data = .dict es ep ∧ es.size = kvs.length ∧ KV kvs vs ∧ s.heap.DictAt (mixKind X.prog X.w) d vs ep := by
  obtain ⟨hd, z, hs, vs, kv, o', es, ep, ho, hx, hdt, r⟩ := I.hok d _ h
  rw [hd] at ho
  cases ho
  refine ⟨hs, hd, hx, es, ep, vs, hdt, ?_, kv, o, es, hd, hx, hdt, r⟩
  have l1 := r.2.1.length
  have l2 : kvs.length = vs.length := Paired.length kv
  rw [Array.length_toList] at l1
  omega
/-- the same for tuple keys -/
theorem Inv.frzT {kvs : List (List Key × V)} (I : Inv X pins σ H s) (h : H d = some (.frz o (.dT kvs))) :
    (d == sysModules) = false ∧ s.heap.get? d = some o ∧ o.ExactDict ∧ ∃ (es : Array DictEntry) (ep : Nat), o.data = .dict es ep ∧ es.size = kvs.length ∧
      ∀ (i : Nat) (k : List Key) (v : V), kvs[i]? = some (k, v) → ∃ (en : DictEntry) (q : Addr), es[i]? = some en ∧ en.key = .ref q ∧ H q = some (.tup (k.map kV)) := by
  obtain ⟨hd, z, hs, xs, pr, o', es, ep, ho, hx, hdt, he, _⟩ := I.hok d _ h
  rw [hd] at ho
  cases ho
  refine ⟨hs, hd, hx, es, ep, hdt, ?_, fun i k v e => ?_⟩
  · have l1 : es.size = xs.length := size_of_entries he
    have l2 : kvs.length = xs.length := Paired.length pr
    omega
  · obtain ⟨b, hb, e1, e2, _⟩ := paired_get pr e
    have q := entry_at he i
    rw [hb] at q
    exact ⟨_, b.2.1, q, rfl, e2⟩
end

/-- the keys of the locked dict at d, in their order -/
def Itk (d : Addr) (o : Obj) (kvs : List (Key × V)) : It :=
  ⟨fun i H => H d = some (.frz o (.dK kvs)) ∧ i < kvs.length, fun i H x H' => H' = H ∧ ∃ k v, kvs[i]? = some (k, v) ∧ x = kV k, fun i H => H d = some (.frz o (.dK kvs)) ∧ kvs.length ≤ i⟩
/-- .. of tuple keys: the key's own tuple -/
def Itkt (d : Addr) (o : Obj) (kvs : List (List Key × V)) : It :=
  ⟨fun i H => H d = some (.frz o (.dT kvs)) ∧ i < kvs.length, fun i H x H' => H' = H ∧ ∃ (k : List Key) (v : V) (q : Addr), kvs[i]? = some (k, v) ∧ x = .ref q ∧ H q = some (.tup (k.map kV)), fun i H => H d = some (.frz o (.dT kvs)) ∧ kvs.length ≤ i⟩
/-- the values -/
def Itd (d : Addr) (o : Obj) (kvs : List (Key × V)) : It :=
  ⟨fun i H => H d = some (.frz o (.dK kvs)) ∧ i < kvs.length, fun i H x H' => H' = H ∧ ∃ k, kvs[i]? = some (k, x), fun i H => H d = some (.frz o (.dK kvs)) ∧ kvs.length ≤ i⟩
/-- the pairs, each a new tuple -/
def Iti (d : Addr) (o : Obj) (kvs : List (Key × V)) : It :=
  ⟨fun i H => H d = some (.frz o (.dK kvs)) ∧ i < kvs.length, fun i H x H' => ∃ T k v, kvs[i]? = some (k, v) ∧ x = .ref T ∧ H T = none ∧ H' = upd H T (.tup [kV k, v]), fun i H => H d = some (.frz o (.dK kvs)) ∧ kvs.length ≤ i⟩
theorem dict_ep {o : Obj} {es es' : Array DictEntry} {ep ep' : Nat} (h : o.data = .dict es ep) (h' : o.data = .dict es' ep') : es' = es ∧ ep' = ep := by
  rw [h] at h'
  cases h'
  exact ⟨rfl, rfl⟩
section
variable {P : Program} {w : World} {K : PySem.W.Frag} {tg : Expr} {d : Addr} {o : Obj} {es : Array DictEntry} {ep : Nat}
theorem turn_keys {kvs : List (Key × V)} (it : Addr) (hod : o.data = .dict es ep) : Turn P w K tg (Itk d o kvs) [it] it (fun i h => h.IsKeyIter it d i kvs.length ep) where
  mem := by simp
  obj := fun i h st b hb => by
    have e : b = it := by simpa using hb
    subst e
    obtain ⟨oi, e, c, dd⟩ := st
    exact ⟨oi, e, fun v z => by rw [dd] at z; cases z⟩
  keep := fun i h h' st k => st.at fun oi e => k it (by simp) oi e
  item := by
    intro X hP hw hK hc i pins s σ H E I hf st hg
    subst hP hw hK
    obtain ⟨hd, hi⟩ := hg
    obtain ⟨f0, f1, f2, f3, f4, f5⟩ := hf it (by simp)
    obtain ⟨hs, hgd, hx, es', ep', vs, hdt, hsz, kv, hm⟩ := I.frzK hd
    obtain ⟨rfl, rfl⟩ := dict_ep hod hdt
    obtain ⟨⟨k, v⟩, hkv⟩ : ∃ p, kvs[i]? = some p := ⟨kvs[i], List.getElem?_eq_getElem hi⟩
    obtain ⟨u, hu, ru⟩ := kv_get kv hkv
    have hl : kvs.length = vs.length := Paired.length kv
    rw [hl] at st
    refine wpAny_pyNext_dict_item st hm hu fun key h' hkey st' sb => ?_
    have I1 : Inv X pins σ H { s with heap := h' } := I.turned (t' := s.toks) (fun b ob hb e => (sb.2 b hb).trans e) f0 f1 f3 f4 f5
    obtain ⟨oi, e, c, dd⟩ := id st'
    refine ⟨key, rfl, go_of (s := { s with heap := h' }) e c dd (by decide) ⟨kV k, H, I1, relV_key (show keyIs k key = true from hkey), ⟨rfl, k, v, hkv, rfl⟩, ?_, fun b hb => (hf b hb).1⟩⟩
    show h'.IsKeyIter it d (i + 1) kvs.length _
    rw [hl]
    exact st'
  done := by
    intro X hP hw hK hc i pins s σ H E I hf st hg
    subst hP hw hK
    obtain ⟨hd, hi⟩ := hg
    obtain ⟨f0, f1, f2, f3, f4, f5⟩ := hf it (by simp)
    obtain ⟨hs, hgd, hx, es', ep', vs, hdt, hsz, kv, hm⟩ := I.frzK hd
    obtain ⟨rfl, rfl⟩ := dict_ep hod hdt
    exact next_key_end (I.ok.hd hc) st hgd hdt hsz hi fun h' eb => ⟨rfl, I.turned (t' := s.toks) (fun b ob hb e => eb b ob hb e) f0 f1 f3 f4 f5⟩
  self := fun A i s Q E st h => wpAny_pyIter_keyiter st h
theorem turn_keysT {kvs : List (List Key × V)} (it : Addr) (hod : o.data = .dict es ep) : Turn P w K tg (Itkt d o kvs) [it] it (fun i h => h.IsKeyIter it d i kvs.length ep) where
  mem := by simp
  obj := fun i h st b hb => by
    have e : b = it := by simpa using hb
    subst e
    obtain ⟨oi, e, c, dd⟩ := st
    exact ⟨oi, e, fun v z => by rw [dd] at z; cases z⟩
  keep := fun i h h' st k => st.at fun oi e => k it (by simp) oi e
  item := by
    intro X hP hw hK hc i pins s σ H E I hf st hg
    subst hP hw hK
    obtain ⟨hd, hi⟩ := hg
    obtain ⟨f0, f1, f2, f3, f4, f5⟩ := hf it (by simp)
    obtain ⟨hs, hgd, hx, es', ep', hdt, hsz, ent⟩ := I.frzT hd
    obtain ⟨rfl, rfl⟩ := dict_ep hod hdt
    obtain ⟨⟨k, v⟩, hkv⟩ : ∃ p, kvs[i]? = some p := ⟨kvs[i], List.getElem?_eq_getElem hi⟩
    obtain ⟨en, q, hen, hkey, hq⟩ := ent i k v hkv
    refine next_key_item st hgd hdt hsz hen fun h' st' sb => ?_
    have I1 : Inv X pins σ H { s with heap := h' } := I.turned (t' := s.toks) (fun b ob hb e => (sb.2 b hb).trans e) f0 f1 f3 f4 f5
    obtain ⟨oi, e, c, dd⟩ := id st'
    exact ⟨en.key, rfl, go_of (s := { s with heap := h' }) e c dd (by decide) ⟨.ref q, H, I1, hkey, ⟨rfl, k, v, q, hkv, rfl, hq⟩, st', fun b hb => (hf b hb).1⟩⟩
  done := by
    intro X hP hw hK hc i pins s σ H E I hf st hg
    subst hP hw hK
    obtain ⟨hd, hi⟩ := hg
    obtain ⟨f0, f1, f2, f3, f4, f5⟩ := hf it (by simp)
    obtain ⟨hs, hgd, hx, es', ep', hdt, hsz, ent⟩ := I.frzT hd
    obtain ⟨rfl, rfl⟩ := dict_ep hod hdt
    exact next_key_end (I.ok.hd hc) st hgd hdt hsz hi fun h' eb => ⟨rfl, I.turned (t' := s.toks) (fun b ob hb e => eb b ob hb e) f0 f1 f3 f4 f5⟩
  self := fun A i s Q E st h => by
    refine wpAny_pyIter_slot st.typeIs F.slot_dict_keyiterator_iter (wpAny_call_entry F.slot_dict_keyiterator_iter st.typeIs F.entry_dict_keyiterator_iter ?_ (F.args_dict_keyiterator_iter_1 _))
    show wpAny _ _ (ret (.ref it)) _ _ s
    exact wpAny_pure ⟨_, rfl, "dict_keyiterator", _, st.typeIs, F.slot_dict_keyiterator_next.lookup, h⟩
theorem turn_vals {kvs : List (Key × V)} (it : Addr) (hod : o.data = .dict es ep) : Turn P w K tg (Itd d o kvs) [it] it (fun i h => h.IsValIter it d i kvs.length ep) where
  mem := by simp
  obj := fun i h st b hb => by
    have e : b = it := by simpa using hb
    subst e
    obtain ⟨oi, e, c, dd⟩ := st
    exact ⟨oi, e, fun v z => by rw [dd] at z; cases z⟩
  keep := fun i h h' st k => st.at fun oi e => k it (by simp) oi e
  item := by
    intro X hP hw hK hc i pins s σ H E I hf st hg
    subst hP hw hK
    obtain ⟨hd, hi⟩ := hg
    obtain ⟨f0, f1, f2, f3, f4, f5⟩ := hf it (by simp)
    obtain ⟨hs, hgd, hx, es', ep', vs, hdt, hsz, kv, hm⟩ := I.frzK hd
    obtain ⟨rfl, rfl⟩ := dict_ep hod hdt
    obtain ⟨⟨k, v⟩, hkv⟩ : ∃ p, kvs[i]? = some p := ⟨kvs[i], List.getElem?_eq_getElem hi⟩
    obtain ⟨u, hu, ru⟩ := kv_get kv hkv
    have hl : kvs.length = vs.length := Paired.length kv
    rw [hl] at st
    refine wpAny_pyNext_values_item st hm hu fun h' st' sb => ?_
    have I1 : Inv X pins σ H { s with heap := h' } := I.turned (t' := s.toks) (fun b ob hb e => (sb.2 b hb).trans e) f0 f1 f3 f4 f5
    obtain ⟨oi, e, c, dd⟩ := id st'
    refine ⟨u, rfl, go_of (s := { s with heap := h' }) e c dd (by decide) ⟨v, H, I1, ru, ⟨rfl, k, hkv⟩, ?_, fun b hb => (hf b hb).1⟩⟩
    show h'.IsValIter it d (i + 1) kvs.length _
    rw [hl]
    exact st'
  done := by
    intro X hP hw hK hc i pins s σ H E I hf st hg
    subst hP hw hK
    obtain ⟨hd, hi⟩ := hg
    obtain ⟨f0, f1, f2, f3, f4, f5⟩ := hf it (by simp)
    obtain ⟨hs, hgd, hx, es', ep', vs, hdt, hsz, kv, hm⟩ := I.frzK hd
    obtain ⟨rfl, rfl⟩ := dict_ep hod hdt
    have hl : kvs.length = vs.length := Paired.length kv
    rw [hl] at st
    exact wpAny_pyNext_values_end (I.ok.hd hc) st hm (List.getElem?_eq_none (by omega)) fun h' eb => ⟨rfl, I.turned (t' := s.toks) (fun b ob hb e => eb b ob hb e) f0 f1 f3 f4 f5⟩
  self := fun A i s Q E st h => wpAny_pyIter_valiter st h
theorem turn_items {kvs : List (Key × V)} {elts : List Expr} {kk : Nat} {tpos : Pos} (it : Addr) (hod : o.data = .dict es ep) :
    Turn P w K (.Tuple elts kk tpos) (Iti d o kvs) [it] it (fun i h => ∃ ok ov, IsItemIter h it d i kvs.length ep ok ov) where
  mem := by simp
  obj := fun i h st b hb => by
    have e : b = it := by simpa using hb
    subst e
    obtain ⟨ok, ov, e⟩ := st
    exact ⟨_, e, fun v z => nomatch z⟩
  keep := fun i h h' st k => let ⟨ok, ov, e⟩ := st; ⟨ok, ov, k it (by simp) _ e⟩
  item := by
    intro X hP hw hK hc i pins s σ H E I hf st hg
    subst hP hw hK
    obtain ⟨hd, hi⟩ := hg
    obtain ⟨hs, hgd, hx, es', ep', vs, hdt, hsz, kv, hm⟩ := I.frzK hd
    obtain ⟨rfl, rfl⟩ := dict_ep hod hdt
    obtain ⟨⟨k, v⟩, hkv⟩ : ∃ p, kvs[i]? = some p := ⟨kvs[i], List.getElem?_eq_getElem hi⟩
    obtain ⟨u, hu, ru⟩ := kv_get kv hkv
    have hl : kvs.length = vs.length := Paired.length kv
    obtain ⟨ok, ov, he⟩ := st
    rw [hl] at he
    have hlt : it < s.heap.objs.size := Heap.lt_size he
    refine wpAny_pyNext_items_item he hm hu fun key h' hkey ho hT hz hk => ?_
    refine ⟨_, rfl, wpAny_letOwnedTupleGo_items (s := { s with heap := h' }) ho fun h'' he' sb => ?_⟩
    have hT2 : h''.get? s.heap.objs.size = some { cls := .type "tuple", data := .seq #[key, u] } := (sb.2 _ (Nat.ne_of_gt hlt)).trans hT
    have new : ObjOk X.prog X.w (upd H s.heap.objs.size (.tup [kV k, v])) h'' s.heap.objs.size (.tup [kV k, v]) :=
      ⟨by show 2 ≤ sizeLine; decide, [key, u], .cons (relV_key (show keyIs k key = true from hkey)) (.cons ru .nil), ⟨_, hT2, rfl, _, rfl⟩⟩
    have I1 : Inv X pins σ (upd H s.heap.objs.size (.tup [kV k, v])) { s with heap := h'' } :=
      I.turnedNew (t' := s.toks) (ch := [it]) (fun b ob hb e => (sb.2 b (by simpa using hb)).trans (hk b ob (by simpa using hb) e)) hf (Nat.le_refl _) new
    refine ⟨.ref s.heap.objs.size, _, I1, rfl, ⟨_, k, v, hkv, rfl, I.hok.fresh (Nat.le_refl _), rfl⟩, ⟨key, u, ?_⟩, fun b hb => ?_⟩
    · rw [hl]; exact he'
    · have e : b = it := by simpa using hb
      rw [e, upd_ne (Nat.ne_of_lt hlt)]
      exact (hf it (by simp)).1
  done := by
    intro X hP hw hK hc i pins s σ H E I hf st hg
    subst hP hw hK
    obtain ⟨hd, hi⟩ := hg
    obtain ⟨f0, f1, f2, f3, f4, f5⟩ := hf it (by simp)
    obtain ⟨hs, hgd, hx, es', ep', vs, hdt, hsz, kv, hm⟩ := I.frzK hd
    obtain ⟨rfl, rfl⟩ := dict_ep hod hdt
    have hl : kvs.length = vs.length := Paired.length kv
    obtain ⟨ok, ov, he⟩ := st
    rw [hl] at he
    exact wpAny_pyNext_items_end (I.ok.hd hc) he hm (List.getElem?_eq_none (by omega)) fun h' eb => ⟨rfl, I.turned (t' := s.toks) (fun b ob hb e => eb b ob hb e) f0 f1 f3 f4 f5⟩
  self := fun A i s Q E st h => let ⟨_, _, e⟩ := st; PySem.W.kcp_self e h
end

/-! ### for k in d, d.keys(), d.values(), d.items() -/
/-- the dict is locked (tLock, or by the caller) -/
def iKeys (td : TE) : TI := fun σ H R => td σ H fun x H1 => ∃ d o, x = .ref d ∧ ((∃ kvs, H1 d = some (.frz o (.dK kvs)) ∧ R (Itk d o kvs) H1) ∨ ∃ kvs, H1 d = some (.frz o (.dT kvs)) ∧ R (Itkt d o kvs) H1)
def iVals (td : TE) : TI := fun σ H R => td σ H fun x H1 => ∃ d o kvs, x = .ref d ∧ H1 d = some (.frz o (.dK kvs)) ∧ R (Itd d o kvs) H1
def iItems (td : TE) : TI := fun σ H R => td σ H fun x H1 => ∃ d o kvs, x = .ref d ∧ H1 d = some (.frz o (.dK kvs)) ∧ R (Iti d o kvs) H1
def iKeysM (td : TE) : TI := fun σ H R => td σ H fun x H1 => ∃ d o kvs, x = .ref d ∧ H1 d = some (.frz o (.dK kvs)) ∧ R (Itk d o kvs) H1
section
variable {X : Cx} {tg e : Expr} {td : TE} {apos cpos : Pos}
theorem pi_keys (he : PE X e td) : PI X tg e (iKeys td) := by
  intro pins s σ H R I h
  refine thn (he pins s σ H _ I h) fun u s1 ⟨x, H1, I1, rx, d, o, ex, q⟩ => ?_
  subst ex
  obtain rfl : u = Value.ref d := rx
  rcases q with ⟨kvs, hd, q⟩ | ⟨kvs, hd, q⟩
  · obtain ⟨hs, hgd, hx, es, ep, vs, hdt, hsz, kv, hm⟩ := I1.frzK hd
    refine iter_keys hs hgd hx hdt (pi_one (tk := s1.toks) I1 _ (turn_keys _ hdt) ⟨_, Heap.get?_push_size _ rfl, rfl, ?_⟩ q)
    rw [hsz] <;> rfl
  · obtain ⟨hs, hgd, hx, es, ep, hdt, hsz, ent⟩ := I1.frzT hd
    refine iter_keys hs hgd hx hdt (pi_one (tk := s1.toks) I1 _ (turn_keysT _ hdt) ⟨_, Heap.get?_push_size _ rfl, rfl, ?_⟩ q)
    rw [hsz] <;> rfl
theorem pi_values (he : PE X e td) (hbase : attributeBase e "values" X.env (eval e X.env) = eval e X.env := by rfl) (hline : (apos.endLine == cpos.line) = true := by rfl) : PI X tg (.Call (.Attribute e "values" apos) [] [] cpos) (iVals td) := by
  intro pins s σ H R I h
  refine wpAny_Call_method (T := "dict") (id := "dict.values") hbase rfl hline F.plainAttrs_dict F.slot_dict_values F.type_dict_values (thn (he pins s σ H _ I h) fun u s1 ⟨x, H1, I1, rx, d, o, kvs, ex, hd, q⟩ => ?_)
  subst ex
  obtain rfl : u = Value.ref d := rx
  obtain ⟨hs, hgd, hx, es, ep, vs, hdt, hsz, kv, hm⟩ := I1.frzK hd
  have hl : kvs.length = vs.length := Paired.length kv
  refine ⟨hm.dictOf.typeIs, hm.dictOf.mapOf.noDict, ?_⟩
  have I2 : Inv X pins σ H1 { s1 with heap := s1.heap.push { cls := .type "dict_values", data := .fields #[.ref d] } } := I1.kept (t' := s1.toks) fun b ob q => Heap.get?_push_of_some _ q
  have fin : wpAny (model X.prog X.w) X.A (pyIter (.ref s1.heap.objs.size)) (PIE X pins σ tg R) X.xe { s1 with heap := s1.heap.push { cls := .type "dict_values", data := .fields #[.ref d] } } := by
    refine wpAny_pyIter_values (d := d) (knd := mixKind X.prog X.w) ⟨_, Heap.get?_push_size _ rfl, rfl, rfl⟩ (hm.push _) (pi_one (tk := s1.toks) I2 _ (turn_vals _ hdt) ⟨_, Heap.get?_push_size _ rfl, rfl, ?_⟩ q)
    rw [hl] <;> rfl
  show wpAny _ _ (callWith cpos (.builtin "dict.values") [.ref d] [] []) _ X.xe s1
  exact method_meetsIn F.slot_dict_values F.entry_dict_values rfl (PySem.evalArgs_none ⟨rfl, hm.dictOf.typeIs, F.args_dict_values_1 _, _, meets_dict_values (mixKind X.prog X.w) d hs, ⟨vs, hm.dictOf⟩, fin⟩)
theorem pi_items {elts : List Expr} {kk : Nat} {tpos : Pos} (he : PE X e td) (hbase : attributeBase e "items" X.env (eval e X.env) = eval e X.env := by rfl) (hline : (apos.endLine == cpos.line) = true := by rfl) :
    PI X (.Tuple elts kk tpos) (.Call (.Attribute e "items" apos) [] [] cpos) (iItems td) := by
  intro pins s σ H R I h
  refine wpAny_Call_method (T := "dict") (id := "dict.items") hbase rfl hline F.plainAttrs_dict F.slot_dict_items F.type_dict_items (thn (he pins s σ H _ I h) fun u s1 ⟨x, H1, I1, rx, d, o, kvs, ex, hd, q⟩ => ?_)
  subst ex
  obtain rfl : u = Value.ref d := rx
  obtain ⟨hs, hgd, hx, es, ep, vs, hdt, hsz, kv, hm⟩ := I1.frzK hd
  have hl : kvs.length = vs.length := Paired.length kv
  refine ⟨hm.dictOf.typeIs, hm.dictOf.mapOf.noDict, ?_⟩
  have I2 : Inv X pins σ H1 { s1 with heap := s1.heap.push { cls := .type "dict_items", data := .fields #[.ref d] } } := I1.kept (t' := s1.toks) fun b ob q => Heap.get?_push_of_some _ q
  have fin : wpAny (model X.prog X.w) X.A (pyIter (.ref s1.heap.objs.size)) (PIE X pins σ (.Tuple elts kk tpos) R) X.xe { s1 with heap := s1.heap.push { cls := .type "dict_items", data := .fields #[.ref d] } } := by
    refine wpAny_pyIter_items (d := d) (knd := mixKind X.prog X.w) ⟨_, Heap.get?_push_size _ rfl, rfl, rfl⟩ (hm.push _) (pi_one (tk := s1.toks) I2 _ (turn_items _ hdt) ⟨.none, .none, ?_⟩ q)
    rw [hl]
    exact Heap.get?_push_size _ rfl
  show wpAny _ _ (callWith cpos (.builtin "dict.items") [.ref d] [] []) _ X.xe s1
  exact method_meetsIn F.slot_dict_items F.entry_dict_items rfl (PySem.evalArgs_none ⟨rfl, hm.dictOf.typeIs, F.args_dict_items_1 _, _, meets_dict_items (mixKind X.prog X.w) d hs, ⟨vs, hm.dictOf⟩, fin⟩)
theorem pi_keysM (he : PE X e td) (hbase : attributeBase e "keys" X.env (eval e X.env) = eval e X.env := by rfl) (hline : (apos.endLine == cpos.line) = true := by rfl) : PI X tg (.Call (.Attribute e "keys" apos) [] [] cpos) (iKeysM td) := by
  intro pins s σ H R I h
  refine wpAny_Call_method (T := "dict") (id := "dict.keys") hbase rfl hline F.plainAttrs_dict F.slot_dict_keys F.type_dict_keys (thn (he pins s σ H _ I h) fun u s1 ⟨x, H1, I1, rx, d, o, kvs, ex, hd, q⟩ => ?_)
  subst ex
  obtain rfl : u = Value.ref d := rx
  obtain ⟨hs, hgd, hx, es, ep, vs, hdt, hsz, kv, hm⟩ := I1.frzK hd
  have hl : kvs.length = vs.length := Paired.length kv
  refine ⟨hm.dictOf.typeIs, hm.dictOf.mapOf.noDict, ?_⟩
  have I2 : Inv X pins σ H1 { s1 with heap := s1.heap.push { cls := .type "dict_keys", data := .fields #[.ref d] } } := I1.kept (t' := s1.toks) fun b ob q => Heap.get?_push_of_some _ q
  have fin : wpAny (model X.prog X.w) X.A (pyIter (.ref s1.heap.objs.size)) (PIE X pins σ tg R) X.xe { s1 with heap := s1.heap.push { cls := .type "dict_keys", data := .fields #[.ref d] } } := by
    refine PySem.W.kdl_pyIter_keys (d := d) (knd := mixKind X.prog X.w) ⟨_, Heap.get?_push_size _ rfl, rfl, rfl⟩ (hm.push _) (pi_one (tk := s1.toks) I2 _ (turn_keys _ hdt) ⟨_, Heap.get?_push_size _ rfl, rfl, ?_⟩ q)
    rw [hl] <;> rfl
  show wpAny _ _ (callWith cpos (.builtin "dict.keys") [.ref d] [] []) _ X.xe s1
  exact method_meetsIn F.slot_dict_keys F.entry_dict_keys rfl (PySem.evalArgs_none ⟨rfl, hm.dictOf.typeIs, F.args_dict_keys_1 _, _, PySem.W.kdl_meets_keys (mixKind X.prog X.w) d hs, ⟨vs, hm.dictOf⟩, fin⟩)
end

/-! ### enumerate(list) -/
/-- the list at a as it stands at each turn, each item in a new pair -/
def Ite (K : PySem.W.Frag) (a : Addr) : It :=
  ⟨fun i H => ∃ (xs : List V) (x : V), SqL K H a xs ∧ xs[i]? = some x, fun i H v H' => ∃ T x, v = .ref T ∧ H T = none ∧ H' = upd H T (.tup [.int (i : Nat), x]) ∧ ∀ xs, SqL K H a xs → xs[i]? = some x, fun i H => ∃ xs : List V, SqL K H a xs ∧ xs.length ≤ i⟩
theorem turn_enum {P : Program} {w : World} {K : PySem.W.Frag} {elts : List Expr} {kk : Nat} {tpos : Pos} (a e it : Addr) :
    Turn P w K (.Tuple elts kk tpos) (Ite K a) [e, it] e (fun i h => (∃ old, IsEnum h e it ((i : Nat) : Int) old) ∧ h.IsListIter it a i ∧ e ≠ it) where
  mem := by simp
  obj := fun i h st b hb => by
    obtain ⟨⟨old, he⟩, ⟨o, ho, hc, hd⟩, _⟩ := st
    have e' : b = e ∨ b = it := by simpa using hb
    rcases e' with z | z
    · rw [z]; exact ⟨_, he, fun v q => nomatch q⟩
    · rw [z]; exact ⟨o, ho, fun v q => by rw [hd] at q; cases q⟩
  keep := fun i h h' st k => let ⟨⟨old, he⟩, hi, hne⟩ := st; ⟨⟨old, k e (by simp) _ he⟩, hi.at fun o q => k it (by simp) o q, hne⟩
  item := by
    intro X hP hw hK hc i pins s σ H E I hf st hg
    subst hP hw hK
    obtain ⟨⟨old, he⟩, hit, hne⟩ := st
    obtain ⟨xs, x, hq, hx⟩ := hg
    obtain ⟨its, rv, p, hz⟩ := I.list hq
    obtain ⟨u, hu, ru⟩ := rv.get hx
    have hel : e < s.heap.objs.size := Heap.lt_size he
    have hil : it < s.heap.objs.size := by obtain ⟨_, q, _⟩ := hit; exact Heap.lt_size q
    refine wpAny_pyNext_enum_item he hit p.isList (x := u) (by simpa using hu) hne fun h' ho hit' hT hsz hk => ?_
    refine ⟨_, rfl, wpAny_letOwnedTupleGo_enum (s := { s with heap := h', toks := s.toks + 1 }) ho fun h'' he' sb => ?_⟩
    have hT2 : h''.get? s.heap.objs.size = some { cls := .type "tuple", data := .seq #[.int i s.toks, u] } := (sb.2 _ (Nat.ne_of_gt hel)).trans hT
    have new : ObjOk X.prog X.w (upd H s.heap.objs.size (.tup [.int (i : Nat), x])) h'' s.heap.objs.size (.tup [.int (i : Nat), x]) :=
      ⟨by show 2 ≤ sizeLine; decide, [.int i s.toks, u], .cons ⟨_, rfl⟩ (.cons ru .nil), ⟨_, hT2, rfl, _, rfl⟩⟩
    have I1 : Inv X pins σ (upd H s.heap.objs.size (.tup [.int (i : Nat), x])) { s with heap := h'', toks := s.toks + 1 } :=
      I.turnedNew (ch := [e, it]) (fun b ob hb q => (sb.2 b (fun z => hb (by simp [z]))).trans (hk b ob (fun z => hb (by simp [z])) (fun z => hb (by simp [z])) q)) hf (Nat.le_refl _) new
    refine ⟨.ref s.heap.objs.size, _, I1, rfl, ⟨_, x, rfl, I.hok.fresh (Nat.le_refl _), rfl, fun ys hy => by rw [I.list_inj hy hq]; exact hx⟩, ⟨⟨u, ?_⟩, hit'.at fun o q => (sb.2 it (Ne.symm hne)).trans q, hne⟩, fun b hb => ?_⟩
    · have e1 : ((i + 1 : Nat) : Int) = (i : Int) + 1 := by omega
      rw [e1]; exact he'
    · have hb' : b < s.heap.objs.size := by
        have e' : b = e ∨ b = it := by simpa using hb
        rcases e' with z | z
        · rw [z]; exact hel
        · rw [z]; exact hil
      rw [upd_ne (Nat.ne_of_lt hb')]
      exact (hf b hb).1
  done := by
    intro X hP hw hK hc i pins s σ H E I hf st hg
    subst hP hw hK
    obtain ⟨⟨old, he⟩, hit, hne⟩ := st
    obtain ⟨xs, hq, hx⟩ := hg
    obtain ⟨its, rv, p, hz⟩ := I.list hq
    obtain ⟨f0, f1, f2, f3, f4, f5⟩ := hf it (by simp)
    have hl := rv.length
    exact wpAny_pyNext_enum_end (I.ok.hd hc) he hit p.isList (by simp; omega) fun h' eb => ⟨rfl, I.turned (t' := s.toks) (fun b o hb q => eb b o hb q) f0 f1 f3 f4 f5⟩
  self := fun A i s Q E st h => let ⟨⟨_, he⟩, _⟩ := st; wpAny_pyIter_enum he h
def iEnum (K : PySem.W.Frag) (ta : TA) : TI := fun σ H R => ta σ H fun vs H1 => ∃ a xs, vs = [.ref a] ∧ SqL K H1 a xs ∧ R (Ite K a) H1
theorem pi_enum {X : Cx} {e : Expr} {ta : TA} {p pos tpos : Pos} {elts : List Expr} {kk : Nat} (hg : Gl X "enumerate") (hm : X.mg "enumerate" = none) (ha : PA X [e] ta) (hs : starEach [e] X.env = [(false, eval e X.env)] := by rfl) :
    PI X (.Tuple elts kk tpos) (.Call (.Name "enumerate" p) [e] [] pos) (iEnum X.K ta) := by
  intro pins s σ H R I h
  refine Call_ (ld_blt I hg hm boot_enumerate (PyProof.Rows.callWith_type1 (thn (ha pos pins s σ H _ I h) fun us s1 ⟨vs, H1, I1, r1, q1⟩ => ?_) hs rfl))
  obtain ⟨a, xs, ex, hq, q⟩ := q1
  subst ex
  cases r1 with
  | cons r rr =>
    cases rr
    cases r
    obtain ⟨its, rv, p', hz⟩ := I1.list hq
    refine call_enumerate_list p'.isList fun h' he hit hsz hk => wpAny_pyIter_enum he ?_
    have I2 : Inv X pins σ H1 { s1 with heap := h' } := I1.kept (t' := s1.toks) hk
    refine ⟨s1.heap.objs.size + 1, [s1.heap.objs.size + 1, s1.heap.objs.size], _, _, H1, rfl, I2, turn_enum a (s1.heap.objs.size + 1) s1.heap.objs.size, ⟨⟨.none, he⟩, hit, Nat.succ_ne_self _⟩, fun b hb => ?_, q⟩
    have e' : b = s1.heap.objs.size + 1 ∨ b = s1.heap.objs.size := by simpa using hb
    have hle : s1.heap.objs.size ≤ b := by
      rcases e' with z | z
      · rw [z]; exact Nat.le_add_right _ _
      · rw [z]; exact Nat.le_refl _
    exact I1.fpOk hle (I1.hok.fresh hle)
/-! ### zip(list, list) -/
theorem boot_zip5 : bootBuiltins "zip" = some (.type "zip") := by decide +kernel
/-- the lists at a and b as they stand at each turn, the items in new pairs -/
def Itz (K : PySem.W.Frag) (a b : Addr) : It :=
  ⟨fun i H => ∃ (xs ys : List V) (x y : V), SqL K H a xs ∧ SqL K H b ys ∧ xs[i]? = some x ∧ ys[i]? = some y,
    fun i H v H' => ∃ T x y, v = .ref T ∧ H T = none ∧ H' = upd H T (.tup [x, y]) ∧ (∀ xs, SqL K H a xs → xs[i]? = some x) ∧ ∀ ys, SqL K H b ys → ys[i]? = some y,
    fun i H => ∃ xs ys : List V, SqL K H a xs ∧ SqL K H b ys ∧ (xs.length ≤ i ∨ ys.length ≤ i)⟩
theorem turn_zip {P : Program} {w : World} {K : PySem.W.Frag} {elts : List Expr} {kk : Nat} {tpos : Pos} {a b z TI TO i1 i2 : Addr} (D : ZipApart z TI TO i1 i2 a b) :
    Turn P w K (.Tuple elts kk tpos) (Itz K a b) [z, TI, TO, i1, i2] z (fun i h => IsZip h z TI TO .none ∧ IsPair h TI (.ref i1) (.ref i2) ∧ (∃ x y, IsPair h TO x y) ∧ h.IsListIter i1 a i ∧ h.IsListIter i2 b i) where
  mem := by simp
  obj := fun i h st c hc => by
    obtain ⟨hz, hTI, ⟨x, y, hTO⟩, ⟨o1, e1, _, d1⟩, ⟨o2, e2, _, d2⟩⟩ := st
    have e' : c = z ∨ c = TI ∨ c = TO ∨ c = i1 ∨ c = i2 := by simpa using hc
    rcases e' with q | q | q | q | q
    · rw [q]; exact ⟨_, hz, fun v q => nomatch q⟩
    · rw [q]; exact ⟨_, hTI, fun v q => nomatch q⟩
    · rw [q]; exact ⟨_, hTO, fun v q => nomatch q⟩
    · rw [q]; exact ⟨o1, e1, fun v q => by rw [d1] at q; cases q⟩
    · rw [q]; exact ⟨o2, e2, fun v q => by rw [d2] at q; cases q⟩
  keep := fun i h h' st k => by
    obtain ⟨hz, hTI, ⟨x, y, hTO⟩, h1, h2⟩ := st
    exact ⟨k z (by simp) _ hz, k TI (by simp) _ hTI, ⟨x, y, k TO (by simp) _ hTO⟩, h1.at fun o q => k i1 (by simp) o q, h2.at fun o q => k i2 (by simp) o q⟩
  item := by
    intro X hP hw hK hc i pins s σ H E I hf st hg
    subst hP hw hK
    obtain ⟨hz, hTI, ⟨x0, y0, hTO⟩, h1, h2⟩ := st
    obtain ⟨xs, ys, x, y, hqx, hqy, hx, hy⟩ := hg
    obtain ⟨its, rv, p, _⟩ := I.list hqx
    obtain ⟨its2, rv2, p2, _⟩ := I.list hqy
    obtain ⟨u, hu, ru⟩ := rv.get hx
    obtain ⟨u2, hu2, ru2⟩ := rv2.get hy
    have hzl : z < s.heap.objs.size := Heap.lt_size hz
    refine wpAny_pyNext_zip_item D hz hTI hTO h1 h2 p.isList p2.isList (x := u) (y := u2) (by simpa using hu) (by simpa using hu2) fun h' z' TO' h1' h2' hT hsz hk => ?_
    refine ⟨_, rfl, wpAny_letOwnedTupleGo_zip (s := { s with heap := h' }) z' fun h'' z'' sb => ?_⟩
    have hT2 : h''.get? s.heap.objs.size = some { cls := .type "tuple", data := .seq #[u, u2] } := (sb.2 _ (Nat.ne_of_gt hzl)).trans hT
    have new : ObjOk X.prog X.w (upd H s.heap.objs.size (.tup [x, y])) h'' s.heap.objs.size (.tup [x, y]) :=
      ⟨by show 2 ≤ sizeLine; decide, [u, u2], .cons ru (.cons ru2 .nil), ⟨_, hT2, rfl, _, rfl⟩⟩
    have I1 : Inv X pins σ (upd H s.heap.objs.size (.tup [x, y])) { s with heap := h'' } :=
      I.turnedNew (t' := s.toks) (ch := [z, TI, TO, i1, i2]) (fun c o hb q => (sb.2 c (fun q' => hb (by simp [q']))).trans (hk c o (fun q' => hb (by simp [q'])) (fun q' => hb (by simp [q'])) (fun q' => hb (by simp [q'])) (fun q' => hb (by simp [q'])) q)) hf (Nat.le_refl _) new
    refine ⟨.ref s.heap.objs.size, _, I1, rfl, ⟨_, x, y, rfl, I.hok.fresh (Nat.le_refl _), rfl, fun l hl => by rw [I.list_inj hl hqx]; exact hx, fun l hl => by rw [I.list_inj hl hqy]; exact hy⟩, ⟨z'', ?_, ⟨u, u2, ?_⟩, ?_, ?_⟩, fun c hcm => ?_⟩
    · exact (sb.2 _ D.TIz).trans (hk _ _ D.TIz D.TITO D.TIi1 D.TIi2 hTI)
    · exact (sb.2 _ D.TOz).trans TO'
    · exact h1'.at fun o q => (sb.2 _ D.i1z).trans q
    · exact h2'.at fun o q => (sb.2 _ D.i2z).trans q
    · have hlt : c < s.heap.objs.size := by
        have e' : c = z ∨ c = TI ∨ c = TO ∨ c = i1 ∨ c = i2 := by simpa using hcm
        rcases e' with q | q | q | q | q
        · rw [q]; exact hzl
        · rw [q]; exact Heap.lt_size hTI
        · rw [q]; exact Heap.lt_size hTO
        · rw [q]; obtain ⟨_, e1, _⟩ := h1; exact Heap.lt_size e1
        · rw [q]; obtain ⟨_, e2, _⟩ := h2; exact Heap.lt_size e2
      rw [upd_ne (Nat.ne_of_lt hlt)]
      exact (hf c hcm).1
  done := by
    intro X hP hw hK hc i pins s σ H E I hf st hg
    subst hP hw hK
    obtain ⟨hz, hTI, ⟨x0, y0, hTO⟩, h1, h2⟩ := st
    obtain ⟨xs, ys, hqx, hqy, hend⟩ := hg
    obtain ⟨its, rv, p, _⟩ := I.list hqx
    obtain ⟨its2, rv2, p2, _⟩ := I.list hqy
    have l1 := rv.length
    have l2 := rv2.length
    have he : its.toArray[i]? = none ∨ its2.toArray[i]? = none := by
      rcases hend with q | q
      · exact .inl (by simp; omega)
      · exact .inr (by simp; omega)
    exact wpAny_pyNext_zip_end (I.ok.hd hc) D hz hTI hTO h1 h2 p.isList p2.isList he fun h' hk => ⟨rfl, I.turnedL (t' := s.toks) (ch := [z, TI, TO, i1, i2]) (fun c o hb q =>
      hk c o (fun q' => hb (by simp [q'])) (fun q' => hb (by simp [q'])) (fun q' => hb (by simp [q'])) (fun q' => hb (by simp [q'])) q) hf⟩
  self := fun A i s Q E st h => wpAny_pyIter_zip st.1 h
def iZip (K : PySem.W.Frag) (ta : TA) : TI := fun σ H R => ta σ H fun vs H1 => ∃ a b xs ys, vs = [.ref a, .ref b] ∧ SqL K H1 a xs ∧ SqL K H1 b ys ∧ R (Itz K a b) H1
theorem pi_zip {X : Cx} {e e2 : Expr} {ta : TA} {p pos tpos : Pos} {elts : List Expr} {kk : Nat} (hg : Gl X "zip") (hm : X.mg "zip" = none) (ha : PA X [e, e2] ta)
    (hs : starEach [e, e2] X.env = (false, eval e X.env) :: starEach [e2] X.env := by rfl) (hpl : (backTo pos (starEach [e2] X.env)).any (·.1) = false := by rfl) :
    PI X (.Tuple elts kk tpos) (.Call (.Name "zip" p) [e, e2] [] pos) (iZip X.K ta) := by
  intro pins s σ H R I h
  refine Call_ (ld_blt I hg hm boot_zip5 (PyProof.Rows.callWith_type1 (thn (ha pos pins s σ H _ I h) fun us s1 ⟨vs, H1, I1, r1, q1⟩ => ?_) hs hpl))
  obtain ⟨a, b, xs, ys, ex, hqx, hqy, q⟩ := q1
  subst ex
  cases r1 with
  | cons r rr =>
    cases rr with
    | cons r' rr =>
      cases rr
      cases r
      cases r'
      obtain ⟨its, rv, p1, _⟩ := I1.list hqx
      obtain ⟨its2, rv2, p2, _⟩ := I1.list hqy
      have la : a < s1.heap.objs.size := p1.lt
      have lb : b < s1.heap.objs.size := p2.lt
      refine call_zip_2 p1.isList p2.isList fun h' hz hTI hTO h1 h2 hsz hk => wpAny_pyIter_zip hz ?_
      have I2 : Inv X pins σ H1 { s1 with heap := h' } := I1.kept (t' := s1.toks) hk
      refine ⟨s1.heap.objs.size + 4, [s1.heap.objs.size + 4, s1.heap.objs.size + 2, s1.heap.objs.size + 3, s1.heap.objs.size, s1.heap.objs.size + 1], _, _, H1, rfl, I2, turn_zip (PySem.W.ktu_apart s1.heap.objs.size a b la lb), ⟨hz, hTI, ⟨_, _, hTO⟩, h1, h2⟩, fun c hcm => ?_, q⟩
      have e' : c = s1.heap.objs.size + 4 ∨ c = s1.heap.objs.size + 2 ∨ c = s1.heap.objs.size + 3 ∨ c = s1.heap.objs.size ∨ c = s1.heap.objs.size + 1 := by simpa using hcm
      have hle : s1.heap.objs.size ≤ c := by
        rcases e' with z | z | z | z | z
        · rw [z]; exact Nat.le_add_right _ _
        · rw [z]; exact Nat.le_add_right _ _
        · rw [z]; exact Nat.le_add_right _ _
        · rw [z]; exact Nat.le_refl _
        · rw [z]; exact Nat.le_add_right _ _
      exact I1.fpOk hle (I1.hok.fresh hle)
end L2

section 
namespace Bits
open PySem PyProof.Rows

theorem nat_and_mul_pow (k : Nat) : ∀ a b : Nat, a < 2 ^ k → a &&& (b * 2 ^ k) = 0 := by
  induction k with
  | zero =>
    intro a b h
    have h0 : a = 0 := by
      rw [Nat.pow_zero] at h
      omega
    subst h0
    simp
  | succ k ih =>
    intro a b h
    have hm : (b * 2 ^ (k + 1)) = (b * 2 ^ k) * 2 := by rw [Nat.pow_succ, Nat.mul_assoc]
    have hlt : a / 2 < 2 ^ k := by
      rw [Nat.pow_succ] at h
      generalize 2 ^ k = m at h ⊢
      omega
    have i := ih (a / 2) b hlt
    rw [hm]
    generalize b * 2 ^ k = B at i ⊢
    have e : (a &&& (B * 2)) / 2 = a / 2 &&& (B * 2) / 2 := Nat.and_div_two
    have e2 : (B * 2) / 2 = B := by omega
    have o := @Nat.and_mod_two_eq_one a (B * 2)
    rw [e2, i] at e
    omega

theorem natCast_mul_pow (m k : Nat) : (m : Int) * 2 ^ k = ((m * 2 ^ k : Nat) : Int) := by
  rw [two_pow_cast]
  first
    | exact (Int.natCast_mul _ _).symm
    | simp

/-- low bits a, high part b: (b << k) | a -/
theorem bitOr_join {a b : Int} {k : Nat} (h0 : 0 ≤ a) (h1 : a < 2 ^ k) (hb : 0 ≤ b) : Builtin.bitOr a (b * 2 ^ k) = a + b * 2 ^ k := by
  obtain ⟨n, rfl⟩ := Int.eq_ofNat_of_zero_le h0
  obtain ⟨m, rfl⟩ := Int.eq_ofNat_of_zero_le hb
  have hn : n < 2 ^ k := by
    rw [two_pow_cast] at h1
    omega
  have e : Builtin.bitAnd (n : Int) ((m * 2 ^ k : Nat) : Int) = 0 := by
    rw [bitAnd_pp (by omega) (by omega), Int.toNat_natCast, Int.toNat_natCast, nat_and_mul_pow k n m hn] <;> rfl
  rw [natCast_mul_pow, bitOr_and, e]
  omega
theorem bitOr_join' {a b : Int} {k : Nat} (h0 : 0 ≤ a) (h1 : a < 2 ^ k) (hb : 0 ≤ b) : Builtin.bitOr (b * 2 ^ k) a = a + b * 2 ^ k := by
  rw [bitOr_comm]
  exact bitOr_join h0 h1 hb

/-- x & ((1 << k) - 1) -/
theorem bitAnd_mask {x : Int} (k : Nat) (hx : 0 ≤ x) : Builtin.bitAnd x (2 ^ k - 1) = x % 2 ^ k := by
  obtain ⟨n, rfl⟩ := Int.eq_ofNat_of_zero_le hx
  have hp : 0 < 2 ^ k := Nat.two_pow_pos k
  rw [two_pow_cast]
  have e : ((2 ^ k : Nat) : Int) - 1 = ((2 ^ k - 1 : Nat) : Int) := by
    generalize (2 : Nat) ^ k = m at hp
    omega
  rw [e, bitAnd_pp (by omega) (by omega), Int.toNat_natCast, Int.toNat_natCast, Nat.and_two_pow_sub_one_eq_mod]
  first
    | rfl
    | exact Int.natCast_emod _ _
    | simp

/-- (x >> i) & 1 -/
theorem bit_at {x : Int} (i : Nat) : Builtin.bitAnd (x.fdiv (2 ^ i)) 1 = x / 2 ^ i % 2 := by
  have hp : (0 : Int) ≤ 2 ^ i := by
    rw [two_pow_cast]
    exact Int.natCast_nonneg _
  rw [Int.fdiv_eq_ediv_of_nonneg _ hp, bitAnd_m1]

theorem nat_xor_add_and (m : Nat) : ∀ n : Nat, (m ^^^ n) + 2 * (m &&& n) = m + n := by
  induction m using Nat.strongRecOn with
  | _ m ih =>
    intro n
    by_cases h0 : m = 0
    · subst h0
      simp
    · have ih' := ih (m / 2) (by omega) (n / 2)
      rw [← Nat.xor_div_two, ← Nat.and_div_two] at ih'
      have o1 := @Nat.xor_mod_two_eq_one m n
      have a1 := @Nat.and_mod_two_eq_one m n
      omega

theorem bitXor_pp {x y : Int} (hx : 0 ≤ x) (hy : 0 ≤ y) : Builtin.bitXor x y = ((x.toNat ^^^ y.toNat : Nat) : Int) := by
  have e := nat_xor_add_and x.toNat y.toNat
  rw [bitXor_and, bitAnd_pp hx hy]
  omega
theorem bitOr_pp {x y : Int} (hx : 0 ≤ x) (hy : 0 ≤ y) : Builtin.bitOr x y = ((x.toNat ||| y.toNat : Nat) : Int) := by
  have e := nat_or_add_and x.toNat y.toNat
  rw [bitOr_and, bitAnd_pp hx hy]
  omega
theorem bitXor_nonneg {x y : Int} (hx : 0 ≤ x) (hy : 0 ≤ y) : 0 ≤ Builtin.bitXor x y := by
  rw [bitXor_pp hx hy]
  omega
theorem bitOr_nonneg {x y : Int} (hx : 0 ≤ x) (hy : 0 ≤ y) : 0 ≤ Builtin.bitOr x y := by
  rw [bitOr_pp hx hy]
  omega

end Bits
end 

section 
namespace TL
open PySem PySem.Builtin PySem.Builtin.Str PySem.StrLaws

abbrev tl (x : Str) : List Nat := x.cps.toList
theorem len_tl (x : Str) : x.length = (tl x).length := by simp [tl, Str.length]
theorem ext_tl {x y : Str} (h : tl x = tl y) : x = y := Str.ext' (Array.toList_inj.mp h)
theorem tl_append (x y : Str) : tl (x ++ y) = tl x ++ tl y := by
  show (x ++ y).cps.toList = _
  rw [Str.cps_append, Array.toList_append]
theorem tl_mk (l : List Nat) : tl ⟨l.toArray⟩ = l := rfl
theorem mk_tl (x : Str) : (⟨(tl x).toArray⟩ : Str) = x := ext_tl rfl
theorem map_tl_inj : ∀ {l m : List Str}, l.map tl = m.map tl → l = m
  | [], [], _ => rfl
  | [], _ :: _, h => by simp at h
  | _ :: _, [], h => by simp at h
  | x :: l, y :: m, h => by
    rw [List.map_cons, List.map_cons] at h
    injection h with h1 h2
    rw [ext_tl h1, map_tl_inj h2]
theorem tl_ofString (s : String) : tl (Str.ofString s) = s.toList.map Char.toNat := PyProof.Rows.signs_ofString s

/-! ### the list functions -/
/-- S stands at the head of l -/
def pre (S l : List Nat) : Bool := l.take S.length == S
/-- l cut at each S from the left; k signs are still to be passed over -/
def spl (S : List Nat) : Nat → List Nat → List Nat → List (List Nat)
  | _, acc, [] => [acc]
  | 0, acc, c :: r => if pre S (c :: r) = true then acc :: spl S (S.length - 1) [] r else spl S 0 (acc ++ [c]) r
  | k + 1, acc, _ :: r => spl S k acc r
/-- what stands before the first S, and behind it -/
def par (S : List Nat) : List Nat → List Nat → Option (List Nat × List Nat)
  | _, [] => none
  | acc, c :: r => if pre S (c :: r) = true then some (acc, (c :: r).drop S.length) else par S (acc ++ [c]) r

theorem spl_nil (S : List Nat) (k : Nat) (acc : List Nat) : spl S k acc [] = [acc] := by cases k <;> rfl
theorem spl_hit {S acc r : List Nat} {c : Nat} (h : pre S (c :: r) = true) : spl S 0 acc (c :: r) = acc :: spl S (S.length - 1) [] r := by
  show (if pre S (c :: r) = true then acc :: spl S (S.length - 1) [] r else spl S 0 (acc ++ [c]) r) = _
  rw [if_pos h]
theorem spl_miss {S acc r : List Nat} {c : Nat} (h : pre S (c :: r) = false) : spl S 0 acc (c :: r) = spl S 0 (acc ++ [c]) r := by
  show (if pre S (c :: r) = true then acc :: spl S (S.length - 1) [] r else spl S 0 (acc ++ [c]) r) = _
  rw [if_neg (by rw [h]; exact Bool.false_ne_true)]
theorem spl_pass (S : List Nat) : ∀ (k : Nat) (acc l : List Nat), spl S k acc l = spl S 0 acc (l.drop k)
  | 0, _, _ => by rw [List.drop_zero]
  | k + 1, acc, [] => by rw [List.drop_nil, spl_nil, spl_nil]
  | k + 1, acc, c :: r => by
    show spl S k acc r = spl S 0 acc (r.drop k)
    exact spl_pass S k acc r
theorem par_hit {S acc r : List Nat} {c : Nat} (h : pre S (c :: r) = true) : par S acc (c :: r) = some (acc, (c :: r).drop S.length) := by
  show (if pre S (c :: r) = true then some (acc, (c :: r).drop S.length) else par S (acc ++ [c]) r) = _
  rw [if_pos h]
theorem par_miss {S acc r : List Nat} {c : Nat} (h : pre S (c :: r) = false) : par S acc (c :: r) = par S (acc ++ [c]) r := by
  show (if pre S (c :: r) = true then some (acc, (c :: r).drop S.length) else par S (acc ++ [c]) r) = _
  rw [if_neg (by rw [h]; exact Bool.false_ne_true)]

theorem pre_nil {S : List Nat} (hS : S ≠ []) : pre S [] = false := by
  cases S with
  | nil => exact absurd rfl hS
  | cons s S => rfl
theorem pre_of_head {s c : Nat} (S r : List Nat) (h : c ≠ s) : pre (s :: S) (c :: r) = false := by
  cases hp : pre (s :: S) (c :: r) with
  | false => rfl
  | true =>
    have e : (c :: r).take (s :: S).length = s :: S := eq_of_beq hp
    rw [List.length_cons, List.take_succ_cons] at e
    injection e with e1 e2
    exact absurd e1 h
theorem pre_self (S r : List Nat) : pre S (S ++ r) = true := by
  show ((S ++ r).take S.length == S) = true
  have e : (S ++ r).take S.length = S := List.take_left
  rw [e] <;> exact beq_self_eq_true S

theorem getElem_drop_cons {L : List Nat} {a : Nat} (h : a < L.length) : ∃ c, L.drop a = c :: L.drop (a + 1) := ⟨L[a], List.drop_eq_getElem_cons h⟩
theorem spl_run (S L : List Nat) : ∀ (m a : Nat) (acc : List Nat), a + m ≤ L.length → (∀ k, a ≤ k → k < a + m → pre S (L.drop k) = false) →
    spl S 0 acc (L.drop a) = spl S 0 (acc ++ (L.drop a).take m) (L.drop (a + m))
  | 0, a, acc, _, _ => by rw [List.take_zero, List.append_nil, Nat.add_zero]
  | m + 1, a, acc, h, hn => by
    have hlt : a < L.length := by omega
    obtain ⟨c, e⟩ := getElem_drop_cons hlt
    have h0 := hn a (Nat.le_refl _) (by omega)
    have ih := spl_run S L m (a + 1) (acc ++ [c]) (by omega) (fun k h1 h2 => hn k (by omega) (by omega))
    have e2 : a + 1 + m = a + (m + 1) := by omega
    rw [e2] at ih
    rw [e] at h0
    rw [e, spl_miss h0, ih, List.take_succ_cons, List.append_assoc] <;> rfl
theorem par_run (S L : List Nat) : ∀ (m a : Nat) (acc : List Nat), a + m ≤ L.length → (∀ k, a ≤ k → k < a + m → pre S (L.drop k) = false) →
    par S acc (L.drop a) = par S (acc ++ (L.drop a).take m) (L.drop (a + m))
  | 0, a, acc, _, _ => by rw [List.take_zero, List.append_nil, Nat.add_zero]
  | m + 1, a, acc, h, hn => by
    have hlt : a < L.length := by omega
    obtain ⟨c, e⟩ := getElem_drop_cons hlt
    have h0 := hn a (Nat.le_refl _) (by omega)
    have ih := par_run S L m (a + 1) (acc ++ [c]) (by omega) (fun k h1 h2 => hn k (by omega) (by omega))
    have e2 : a + 1 + m = a + (m + 1) := by omega
    rw [e2] at ih
    rw [e] at h0
    rw [e, par_miss h0, ih, List.take_succ_cons, List.append_assoc] <;> rfl
theorem drop_two (L : List Nat) (a b : Nat) : (L.drop a).drop b = L.drop (a + b) := by
  first
    | rw [List.drop_drop]
    | rw [List.drop_drop, Nat.add_comm]
theorem spl_at {S L : List Nat} (hS : S ≠ []) {c : Nat} {acc : List Nat} (h : pre S (L.drop c) = true) : spl S 0 acc (L.drop c) = acc :: spl S 0 [] (L.drop (c + S.length)) := by
  rw [← drop_two]
  cases e : L.drop c with
  | nil => rw [e, pre_nil hS] at h; cases h
  | cons d r =>
    rw [e] at h
    rw [spl_hit h, spl_pass]
    cases S with
    | nil => exact absurd rfl hS
    | cons s S => rfl
theorem par_at {S L : List Nat} (hS : S ≠ []) {c : Nat} {acc : List Nat} (h : pre S (L.drop c) = true) : par S acc (L.drop c) = some (acc, L.drop (c + S.length)) := by
  rw [← drop_two]
  cases e : L.drop c with
  | nil => rw [e, pre_nil hS] at h; cases h
  | cons d r =>
    rw [e] at h
    rw [par_hit h]

/-! ### the model's split and partition are these -/
theorem at_iff {x y : Str} (hy : tl y ≠ []) (i : Nat) : At x y x.length i ↔ pre (tl y) ((tl x).drop i) = true := by
  have hx := len_tl x
  have hl := len_tl y
  constructor
  · intro h
    have h2 := h.2
    rw [subAt_eq, hl] at h2
    exact h2
  · intro h
    have e : ((tl x).drop i).take (tl y).length = tl y := eq_of_beq h
    have e1 := congrArg List.length e
    rw [List.length_take, List.length_drop] at e1
    have e2 : 0 < (tl y).length := List.length_pos_iff.mpr hy
    refine ⟨by omega, ?_⟩
    rw [subAt_eq, hl]
    exact h
theorem no_at {x y : Str} (hy : tl y ≠ []) {i : Nat} (h : ¬ At x y x.length i) : pre (tl y) ((tl x).drop i) = false := by
  cases hp : pre (tl y) ((tl x).drop i) with
  | false => rfl
  | true => exact absurd ((at_iff hy i).mpr hp) h
theorem len1 {y : Str} (hy : tl y ≠ []) : 1 ≤ y.length := by
  have e2 : 0 < (tl y).length := List.length_pos_iff.mpr hy
  rw [len_tl y]
  exact e2
theorem tl_strSub (x : Str) (i j : Nat) : tl (strSub x i j) = ((tl x).drop i).take (j - i) := strSub_toList x i j
theorem tl_strSub_end (x : Str) (i : Nat) : tl (strSub x i x.length) = (tl x).drop i := by
  rw [tl_strSub, len_tl x]
  exact List.take_of_length_le (by rw [List.length_drop] <;> omega)

theorem parts_spl {x y : Str} (hy : tl y ≠ []) : ∀ (cuts : List Nat) (a f : Nat), a ≤ (tl x).length → ChainG x y x.length a cuts f → (∀ k, f ≤ k → ¬ At x y x.length k) →
    (partsFrom x y.length a cuts).map tl = spl (tl y) 0 [] ((tl x).drop a)
  | [], a, f, ha, h, hn => by
    have e : f = a := h
    subst e
    show [tl (strSub x f x.length)] = _
    have run := spl_run (tl y) (tl x) ((tl x).length - f) f [] (by omega) (fun k h1 _ => no_at hy (hn k h1))
    have e2 : f + ((tl x).length - f) = (tl x).length := by omega
    rw [e2, List.drop_length, spl_nil, List.nil_append, List.take_of_length_le (by rw [List.length_drop] <;> omega)] at run
    rw [run, tl_strSub_end]
  | c :: r, a, f, ha, h, hn => by
    obtain ⟨h1, h2, h3, h4⟩ := h
    have hc : c + y.length ≤ x.length := h2.1
    have hx := len_tl x
    have hl := len_tl y
    have ih := parts_spl hy r (c + y.length) f (by omega) h4 hn
    show tl (strSub x a c) :: (partsFrom x y.length (c + y.length) r).map tl = _
    have run := spl_run (tl y) (tl x) (c - a) a [] (by omega) (fun k k1 k2 => no_at hy (h3 k k1 (by omega)))
    have e2 : a + (c - a) = c := by omega
    rw [e2, List.nil_append, spl_at hy ((at_iff hy c).mp h2)] at run
    rw [run, ih, tl_strSub, hl]

/-- hk: by kind_ok where the separator is plain -/
theorem split_spl (x y : Str) (hy : tl y ≠ []) (hk : ¬ Builtin.Str.strKind x < Builtin.Str.strKind y) : (Txt.split x y).map tl = spl (tl y) 0 [] (tl x) := by
  obtain ⟨f, g, hn⟩ := occ_tight x y (len1 hy)
  have key := parts_spl hy _ 0 f (Nat.zero_le _) g hn
  rw [List.drop_zero] at key
  have none_case : occurrences x y 0 x.length (x.length + 1) = [] → [x].map tl = spl (tl y) 0 [] (tl x) := fun ho => by
    rw [ho] at key
    rw [← key]
    show [tl x] = [tl (strSub x 0 x.length)]
    rw [sub_whole]
  unfold Txt.split
  by_cases h1 : (decide (x.length < y.length) || decide (Builtin.Str.strKind x < Builtin.Str.strKind y)) = true
  · rw [if_pos h1]
    have hlt : x.length < y.length := by
      simp only [Bool.or_eq_true, decide_eq_true_eq] at h1
      rcases h1 with h | h
      · exact h
      · exact absurd h hk
    refine none_case ?_
    cases ho : occurrences x y 0 x.length (x.length + 1) with
    | nil => rfl
    | cons c r =>
      rw [ho] at g
      have hc : c + y.length ≤ x.length := g.2.1.1
      omega
  · rw [if_neg h1]
    by_cases h2 : (occurrences x y 0 x.length (x.length + 1)).isEmpty = true
    · rw [if_pos h2]
      exact none_case (List.isEmpty_iff.mp h2)
    · rw [if_neg h2, partsBetween_eq]
      exact key
theorem kind_ok {x y : Str} (h : y.cps.all (· < 256) = true) : ¬ Builtin.Str.strKind x < Builtin.Str.strKind y := by
  have e : Builtin.Str.strKind y = 1 := by unfold PySem.Builtin.Str.strKind; rw [if_pos h]
  rw [e]
  unfold PySem.Builtin.Str.strKind
  split
  · omega
  · split <;> omega

theorem partition_par (x y : Str) (hy : tl y ≠ []) :
    Txt.partition x y = (match par (tl y) [] (tl x) with | some (a, b) => (⟨a.toArray⟩, y, ⟨b.toArray⟩) | none => (x, Str.empty, Str.empty)) := by
  have hx := len_tl x
  have hl := len_tl y
  rcases PyProof.Rows.partition_whole x y with ⟨e, hn⟩ | ⟨i, e, hi, hn⟩
  · have run := par_run (tl y) (tl x) (tl x).length 0 [] (by omega) (fun k _ _ => no_at hy (hn k))
    rw [List.drop_zero, Nat.zero_add, List.drop_length] at run
    rw [e, run] <;> rfl
  · have hb : i + y.length ≤ x.length := hi.1
    have run := par_run (tl y) (tl x) i 0 [] (by omega) (fun k _ k2 => no_at hy (hn k (by omega)))
    rw [List.drop_zero, Nat.zero_add, List.nil_append, par_at hy ((at_iff hy i).mp hi)] at run
    rw [e, run]
    have e1 : strSub x 0 i = ⟨((tl x).take i).toArray⟩ := ext_tl (by rw [tl_strSub, List.drop_zero, Nat.sub_zero])
    have e2 : strSub x (i + y.length) x.length = ⟨((tl x).drop (i + (tl y).length)).toArray⟩ := ext_tl (by rw [tl_strSub_end, hl])
    rw [e1, e2] <;> rfl

/-! ### computing spl and par -/
/-- a part that the separator does not begin in, then the separator -/
theorem spl_part {S p rest acc : List Nat} (hS : S ≠ []) (h : ∀ i, i < p.length → pre S ((p ++ (S ++ rest)).drop i) = false) :
    spl S 0 acc (p ++ (S ++ rest)) = (acc ++ p) :: spl S 0 [] rest := by
  have run := spl_run S (p ++ (S ++ rest)) p.length 0 acc (by rw [List.length_append]; omega) (fun k _ k2 => h k (by omega))
  have ed : (p ++ (S ++ rest)).drop p.length = S ++ rest := List.drop_left
  rw [List.drop_zero, Nat.zero_add, List.take_left] at run
  rw [run, spl_at hS (by rw [ed]; exact pre_self S rest), ← drop_two, ed, List.drop_left]
theorem spl_last {S p acc : List Nat} (h : ∀ i, i < p.length → pre S (p.drop i) = false) : spl S 0 acc p = [acc ++ p] := by
  have run := spl_run S p p.length 0 acc (by omega) (fun k _ k2 => h k (by omega))
  rw [List.drop_zero, Nat.zero_add, List.drop_length, spl_nil, List.take_length] at run
  exact run
theorem par_part {S p rest acc : List Nat} (hS : S ≠ []) (h : ∀ i, i < p.length → pre S ((p ++ (S ++ rest)).drop i) = false) :
    par S acc (p ++ (S ++ rest)) = some (acc ++ p, rest) := by
  have run := par_run S (p ++ (S ++ rest)) p.length 0 acc (by rw [List.length_append]; omega) (fun k _ k2 => h k (by omega))
  have ed : (p ++ (S ++ rest)).drop p.length = S ++ rest := List.drop_left
  rw [List.drop_zero, Nat.zero_add, List.take_left] at run
  rw [run, par_at hS (by rw [ed]; exact pre_self S rest), ← drop_two, ed, List.drop_left]
theorem par_none {S p acc : List Nat} (h : ∀ i, i < p.length → pre S (p.drop i) = false) : par S acc p = none := by
  have run := par_run S p p.length 0 acc (by omega) (fun k _ k2 => h k (by omega))
  rw [List.drop_zero, Nat.zero_add, List.drop_length] at run
  exact run
/-- the separator's first sign is not in the part -/
theorem free_of {s : Nat} {S p q : List Nat} (h : s ∉ p) : ∀ i, i < p.length → pre (s :: S) ((p ++ q).drop i) = false := fun i hi => by
  have hlt : i < (p ++ q).length := by rw [List.length_append]; omega
  have e : (p ++ q).drop i = (p ++ q)[i] :: (p ++ q).drop (i + 1) := List.drop_eq_getElem_cons hlt
  rw [e]
  refine pre_of_head _ _ fun z => h ?_
  have e1 : (p ++ q)[i] = p[i] := List.getElem_append_left hi
  rw [← z, e1]
  exact List.getElem_mem hi
theorem spl_part1 {s : Nat} {S p rest acc : List Nat} (h : s ∉ p) : spl (s :: S) 0 acc (p ++ (s :: S ++ rest)) = (acc ++ p) :: spl (s :: S) 0 [] rest :=
  spl_part (by simp) (free_of h)
theorem spl_last1 {s : Nat} {S p acc : List Nat} (h : s ∉ p) : spl (s :: S) 0 acc p = [acc ++ p] := spl_last fun i hi => by
  have z := free_of (S := S) (q := []) h i hi
  rw [List.append_nil] at z
  exact z
theorem par_part1 {s : Nat} {S p rest acc : List Nat} (h : s ∉ p) : par (s :: S) acc (p ++ (s :: S ++ rest)) = some (acc ++ p, rest) := par_part (by simp) (free_of h)
theorem par_none1 {s : Nat} {S p acc : List Nat} (h : s ∉ p) : par (s :: S) acc p = none := par_none fun i hi => by
  have z := free_of (S := S) (q := []) h i hi
  rw [List.append_nil] at z
  exact z

/-- joined lists -/
def joinL (S : List Nat) : List (List Nat) → List Nat
  | [] => []
  | [p] => p
  | p :: q :: r => p ++ (S ++ joinL S (q :: r))
theorem tl_join (y : Str) : ∀ parts : List Str, tl (Str.join y parts) = joinL (tl y) (parts.map tl)
  | [] => rfl
  | [_] => rfl
  | x :: z :: r => by
    show tl (x ++ y ++ Str.join y (z :: r)) = tl x ++ (tl y ++ joinL (tl y) ((z :: r).map tl))
    rw [tl_append, tl_append, tl_join y (z :: r), List.append_assoc]
theorem spl_join {s : Nat} {S : List Nat} : ∀ {parts : List (List Nat)}, parts ≠ [] → (∀ p ∈ parts, s ∉ p) → spl (s :: S) 0 [] (joinL (s :: S) parts) = parts
  | [], h, _ => absurd rfl h
  | [p], _, hp => by
    show spl (s :: S) 0 [] p = [p]
    rw [spl_last1 (hp p (List.mem_singleton.mpr rfl)), List.nil_append]
  | p :: q :: r, _, hp => by
    show spl (s :: S) 0 [] (p ++ (s :: S ++ joinL (s :: S) (q :: r))) = p :: q :: r
    rw [spl_part1 (hp p (List.mem_cons_self ..)), List.nil_append, spl_join (by simp) fun z hz => hp z (List.mem_cons_of_mem _ hz)]
theorem join_eq (y : Str) (parts : List Str) : Txt.join y parts = Str.join y parts := glued_eq_join y parts
/-- THE READ-BACK: a joined text, split -/
theorem split_join {y : Str} {s : Nat} {S : List Nat} (ey : tl y = s :: S) (hk : y.cps.all (· < 256) = true) {parts : List Str} (hne : parts ≠ []) (hp : ∀ p ∈ parts, s ∉ tl p) :
    Txt.split (Txt.join y parts) y = parts := by
  refine map_tl_inj ?_
  rw [split_spl _ y (by rw [ey]; simp) (kind_ok hk), join_eq, tl_join, ey]
  refine spl_join (fun e => hne (List.map_eq_nil_iff.mp e)) fun p h => ?_
  obtain ⟨z, hz, rfl⟩ := List.mem_map.mp h
  exact hp z hz
/-- a text cut at its first separator -/
theorem partition_app {y : Str} {s : Nat} {S : List Nat} (ey : tl y = s :: S) {a b : Str} (h : s ∉ tl a) : Txt.partition (a ++ y ++ b) y = (a, y, b) := by
  rw [partition_par _ y (by rw [ey]; simp), tl_append, tl_append, List.append_assoc, ey, par_part1 h]
  show ((⟨([] ++ tl a).toArray⟩ : Str), y, (⟨(tl b).toArray⟩ : Str)) = _
  rw [List.nil_append, mk_tl, mk_tl]
theorem partition_none {y : Str} {s : Nat} {S : List Nat} (ey : tl y = s :: S) {a : Str} (h : s ∉ tl a) : Txt.partition a y = (a, Str.empty, Str.empty) := by
  rw [partition_par _ y (by rw [ey]; simp), ey, par_none1 h]

/-! ### digits -/
/-- the signs of a number -/
def numL (n : Nat) : List Nat := (Nat.toDigits 10 n).map Char.toNat
theorem tl_num (n : Nat) : tl (Str.ofString (toString ((n : Nat) : Int))) = numL n := PySem.W.KIN.signs_num n
theorem digitChar_nat : ∀ d : Nat, d < 10 → (Nat.digitChar d).toNat = 48 + d := by decide
theorem numL_lt {n : Nat} (h : n < 10) : numL n = [48 + n] := by
  unfold numL
  rw [Nat.toDigits_of_lt_base h]
  show [(Nat.digitChar n).toNat] = _
  rw [digitChar_nat n h]
theorem numL_step {n : Nat} (h : 10 ≤ n) : numL n = numL (n / 10) ++ [48 + n % 10] := by
  have hm : n % 10 < 10 := Nat.mod_lt n (by decide)
  have t : Nat.toDigits 10 (n / 10) ++ Nat.toDigits 10 (n % 10) = Nat.toDigits 10 (10 * (n / 10) + n % 10) := Nat.toDigits_append_toDigits (by decide) (by omega) hm
  rw [Nat.div_add_mod] at t
  show (Nat.toDigits 10 n).map Char.toNat = _
  rw [← t, List.map_append, Nat.toDigits_of_lt_base hm]
  show (Nat.toDigits 10 (n / 10)).map Char.toNat ++ [(Nat.digitChar (n % 10)).toNat] = _
  rw [digitChar_nat _ hm] <;> rfl
theorem numL_digits (n : Nat) : NumText.AllDigits (numL n) := by
  induction n using Nat.strongRecOn with
  | _ n ih =>
    by_cases h : n < 10
    · rw [numL_lt h]
      intro c hc
      rw [List.mem_singleton.mp hc]
      omega
    · rw [numL_step (by omega)]
      intro c hc
      rcases List.mem_append.mp hc with hc | hc
      · exact ih (n / 10) (by omega) c hc
      · have hm : n % 10 < 10 := Nat.mod_lt n (by decide)
        rw [List.mem_singleton.mp hc]
        omega
theorem numL_ne (n : Nat) : numL n ≠ [] := by
  by_cases h : n < 10
  · rw [numL_lt h]
    simp
  · rw [numL_step (by omega)]
    simp
theorem numL_free {n s : Nat} (h : s < 48 ∨ 57 < s) : s ∉ numL n := fun hm => by
  have r := numL_digits n s hm
  omega
theorem numL_val (n : Nat) : NumText.digitsVal (numL n) = n := PySem.W.KIN.val_back n
theorem numL_inj {m n : Nat} (h : numL m = numL n) : m = n := by
  have e := congrArg NumText.digitsVal h
  rw [numL_val, numL_val] at e
  exact e
theorem numL_len {n k : Nat} (hk : 0 < k) (h : n < 10 ^ k) : (numL n).length ≤ k := by
  have z := PyProof.Rows.toString_length_le (v := (n : Int)) (by omega) hk (by
    have e : ((10 : Int) ^ k) = ((10 ^ k : Nat) : Int) := by
      first
        | exact (Int.natCast_pow 10 k).symm
        | simp
    rw [e]
    first | exact Int.ofNat_lt.mpr h | omega)
  rw [len_tl, tl_num] at z
  exact z
/-- int(str(n)) -/
theorem int_num {n : Nat} (h : (numL n).length ≤ 4300) : intText? (Str.ofString (toString ((n : Nat) : Int))) = some (n : Int) := by
  have e := intText_digits (x := Str.ofString (toString ((n : Nat) : Int))) (by rw [show (Str.ofString (toString ((n : Nat) : Int))).cps.toList = numL n from tl_num n]; exact numL_digits n)
    (by rw [show (Str.ofString (toString ((n : Nat) : Int))).cps.toList = numL n from tl_num n]; exact numL_ne n) (by rw [len_tl, tl_num]; exact h)
  rw [show (Str.ofString (toString ((n : Nat) : Int))).cps.toList = numL n from tl_num n, numL_val] at e
  exact e
/-- a program's own loop over digits: total = total * 10 + (ord(sign) - ord("0")) -/
theorem fold_digits : ∀ (l : List Nat) (a : Nat), NumText.AllDigits l → l.foldl (fun (t : Int) (c : Nat) => t * 10 + ((c : Int) - 48)) (a : Int) = ((l.foldl (fun acc c => acc * 10 + (c - 48)) a : Nat) : Int)
  | [], _, _ => rfl
  | c :: r, a, h => by
    have hc := h.head
    rw [List.foldl_cons, List.foldl_cons, ← fold_digits r _ h.tail]
    have e : (a : Int) * 10 + ((c : Int) - 48) = ((a * 10 + (c - 48) : Nat) : Int) := by omega
    rw [e]
theorem fold_num (n : Nat) : (numL n).foldl (fun (t : Int) (c : Nat) => t * 10 + ((c : Int) - 48)) 0 = (n : Int) := by
  have e := fold_digits (numL n) 0 (numL_digits n)
  have v := numL_val n
  unfold NumText.digitsVal at v
  rw [v] at e
  exact e

/-! ### words: x.split() -/
def wstep (st : List (List Nat) × List Nat) (c : Nat) : List (List Nat) × List Nat :=
  if Unicode.isSpace c = true then (if st.2 = [] then st else (st.1 ++ [st.2], [])) else (st.1, st.2 ++ [c])
def wfin (st : List (List Nat) × List Nat) : List (List Nat) := if st.2 = [] then st.1 else st.1 ++ [st.2]
theorem len0_tl (x : Str) : x.length = 0 ↔ tl x = [] := by
  rw [len_tl]
  exact List.length_eq_zero_iff
theorem step_tl (ws : List Str) (u : Str) (c : Nat) : ((KWd.step (ws, u) c).1.map tl, tl (KWd.step (ws, u) c).2) = wstep (ws.map tl, tl u) c := by
  by_cases hc : Unicode.isSpace c = true
  · by_cases hu : u.length = 0
    · have a : KWd.step (ws, u) c = (ws, u) := (if_pos hc).trans (if_pos hu)
      have b : wstep (ws.map tl, tl u) c = (ws.map tl, tl u) := (if_pos hc).trans (if_pos ((len0_tl u).mp hu))
      rw [a, b] <;> rfl
    · have a : KWd.step (ws, u) c = (ws ++ [u], Str.empty) := (if_pos hc).trans (if_neg hu)
      have b : wstep (ws.map tl, tl u) c = (ws.map tl ++ [tl u], []) := (if_pos hc).trans (if_neg fun z => hu ((len0_tl u).mpr z))
      rw [a, b]
      show ((ws ++ [u]).map tl, ([] : List Nat)) = _
      rw [List.map_append] <;> rfl
  · have a : KWd.step (ws, u) c = (ws, u ++ ⟨#[c]⟩) := if_neg hc
    have b : wstep (ws.map tl, tl u) c = (ws.map tl, tl u ++ [c]) := if_neg hc
    rw [a, b]
    show (ws.map tl, tl (u ++ ⟨#[c]⟩)) = _
    rw [tl_append] <;> rfl
theorem scan_tl : ∀ (l : List Nat) (st : KWd.St), ((l.foldl KWd.step st).1.map tl, tl (l.foldl KWd.step st).2) = l.foldl wstep (st.1.map tl, tl st.2)
  | [], _ => rfl
  | c :: r, (ws, u) => by
    show ((r.foldl KWd.step (KWd.step (ws, u) c)).1.map tl, tl (r.foldl KWd.step (KWd.step (ws, u) c)).2) = r.foldl wstep (wstep (ws.map tl, tl u) c)
    exact (scan_tl r (KWd.step (ws, u) c)).trans (congrArg (fun z => r.foldl wstep z) (step_tl ws u c))
theorem fin_tl : ∀ q : KWd.St, (KWd.fin q).map tl = wfin (q.1.map tl, tl q.2)
  | (ws, u) => by
    show (if u.length = 0 then ws else ws ++ [u]).map tl = (if tl u = [] then ws.map tl else ws.map tl ++ [tl u])
    by_cases hu : u.length = 0
    · rw [if_pos hu, if_pos ((len0_tl u).mp hu)]
    · rw [if_neg hu, if_neg (fun z => hu ((len0_tl u).mpr z)), List.map_append] <;> rfl
theorem words_tl (x : Str) : (Txt.words x).map tl = wfin ((tl x).foldl wstep ([], [])) := by
  rw [KWd.words_scan]
  exact (fin_tl (KWd.scan x)).trans (congrArg wfin (scan_tl (tl x) ([], Str.empty)))
/-- a run of signs that are no blanks -/
theorem wfold_word : ∀ (p : List Nat) (ws : List (List Nat)) (u : List Nat), (∀ c ∈ p, Unicode.isSpace c = false) → p.foldl wstep (ws, u) = (ws, u ++ p)
  | [], ws, u, _ => by rw [List.append_nil] <;> rfl
  | c :: r, ws, u, h => by
    have hc := h c (List.mem_cons_self ..)
    rw [List.foldl_cons]
    have e : wstep (ws, u) c = (ws, u ++ [c]) := if_neg (by rw [hc]; exact Bool.false_ne_true)
    rw [e, wfold_word r ws (u ++ [c]) fun d hd => h d (List.mem_cons_of_mem _ hd), List.append_assoc] <;> rfl
theorem isSpace_plain {c : Nat} (h1 : 33 ≤ c) (h2 : c ≤ 126) : Unicode.isSpace c = false := PySem.W.KWk.nosp h1 h2
/-- words joined by one blank -/
theorem wfold_join : ∀ (ps : List (List Nat)) (ws : List (List Nat)), ps ≠ [] → (∀ p ∈ ps, p ≠ [] ∧ ∀ c ∈ p, Unicode.isSpace c = false) → wfin ((joinL [32] ps).foldl wstep (ws, [])) = ws ++ ps
  | [], _, h, _ => absurd rfl h
  | [p], ws, _, h => by
    obtain ⟨h1, h2⟩ := h p (List.mem_singleton.mpr rfl)
    show wfin (p.foldl wstep (ws, [])) = _
    rw [wfold_word p ws [] h2, List.nil_append]
    exact if_neg h1
  | p :: q :: r, ws, _, h => by
    obtain ⟨h1, h2⟩ := h p (List.mem_cons_self ..)
    show wfin ((p ++ ([32] ++ joinL [32] (q :: r))).foldl wstep (ws, [])) = _
    rw [List.foldl_append, wfold_word p ws [] h2, List.nil_append, List.foldl_append]
    have e : [32].foldl wstep (ws, p) = (ws ++ [p], []) := by
      have hs : Unicode.isSpace 32 = true := by decide +kernel
      have a : wstep (ws, p) 32 = (if p = [] then (ws, p) else (ws ++ [p], [])) := if_pos hs
      exact a.trans (if_neg h1)
    rw [e, wfold_join (q :: r) (ws ++ [p]) (by simp) fun z hz => h z (List.mem_cons_of_mem _ hz), List.append_assoc] <;> rfl
end TL
end 

namespace L2
open PySem PySem.Spec PyProof.Rows

theorem notLong {n : Nat} (h : n ≤ 16777216) : Builtin.Str.tooLong n = false := by
  have e : (2 : Nat) ^ 24 = 16777216 := by decide
  unfold Builtin.Str.tooLong sizeLine
  exact decide_eq_false (by omega)

/-- a list of texts, of numbered texts -/
theorem vals_strs : ∀ l : List (Str × Tok), Vals ((l.map (·.1)).map V.str) (strValues l)
  | [] => .nil
  | p :: r => .cons ⟨p.2, rfl⟩ (vals_strs r)
theorem strs_of_vals : ∀ {ys : List Str} {us : List Value}, Vals (ys.map V.str) us → StrsAre us ys
  | [], _, .nil => .nil
  | y :: ys, _, .cons r t => by
    obtain ⟨k, rfl⟩ := r
    exact .cons y k (strs_of_vals t)

/-- a new list of texts, tracked -/
def rNewStrs (ys : List Str) : Hp → VK → Prop := fun H Q => ∀ p, H p = none → Q (.ref p) (upd H p (.lst (ys.map V.str)))

section
variable {X : Cx} {pins : List (Addr × Obj)} {σ : St} {H : Hp} {s : Shared} {Q : VK}
theorem laid_strs {l : List (Str × Tok)} {ys : List Str} {k : Nat} (I : Inv X pins σ H s) (e : l.map (·.1) = ys) (hz : ys.length ≤ sizeLine) (h : rNewStrs ys H Q) :
    EP X pins σ Q (.ref s.heap.objs.size) { s with toks := k, heap := s.heap.push { cls := .type "list", data := .seq (strValues l).toArray } } := by
  have hp := I.hok.fresh (Nat.le_refl _)
  refine ⟨.ref s.heap.objs.size, upd H s.heap.objs.size (.lst (ys.map V.str)), I.laid (fun b u q => Heap.get?_push_of_some _ q) (Nat.le_refl _) ⟨by rw [List.length_map]; exact hz, strValues l, _, ?_, Heap.get?_push_size _ rfl⟩, rfl, h _ hp⟩
  rw [← e]
  exact vals_strs l
theorem laid_parts {x y z : Str} {t u v : Tok} {k : Nat} (I : Inv X pins σ H s) (h : ∀ p, H p = none → Q (.ref p) (upd H p (.tup [.str x, .str y, .str z]))) :
    EP X pins σ Q (.ref s.heap.objs.size) { s with toks := k, heap := s.heap.push { cls := .type "tuple", data := .seq [Value.str x t, .str y u, .str z v].toArray } } := by
  have hp := I.hok.fresh (Nat.le_refl _)
  exact ⟨.ref s.heap.objs.size, upd H s.heap.objs.size (.tup [.str x, .str y, .str z]), I.laid (fun b u q => Heap.get?_push_of_some _ q) (Nat.le_refl _)
    ⟨by show 3 ≤ sizeLine; decide, [Value.str x t, .str y u, .str z v], .cons ⟨t, rfl⟩ (.cons ⟨u, rfl⟩ (.cons ⟨v, rfl⟩ .nil)), _, Heap.get?_push_size _ rfl, rfl, _, rfl⟩, rfl, h _ hp⟩
end

section
variable {X : Cx}

/-- x.split(sep) -/
theorem mt_split : MtR X "str.split" (fun x xs H Q => ∃ a b, x = .str a ∧ xs = [.str b] ∧ (b.length == 0) = false ∧ a.length + 2 ≤ sizeLine ∧ rNewStrs (Txt.split a b) H Q) := by
  intro pins s σ H x xs v us Q I rx rs h
  obtain ⟨a, b, rfl, rfl, hb, hz, h⟩ := h
  obtain ⟨t, rfl⟩ := rx
  cases rs with
  | cons r1 rs =>
    cases rs
    obtain ⟨u, rfl⟩ := r1
    have hl : (Txt.split a b).length ≤ sizeLine := Nat.le_trans (PyProof.Rows.split_le a b) hz
    have hn : (Builtin.Str.partsBetween a (Builtin.Str.occurrences a b 0 a.length (a.length + 1)) b.length).length ≤ sizeLine := by
      have e1 := StrLaws.occ_length_le a b 0 a.length (a.length + 1)
      rw [length_partsBetween]; omega
    cases h1 : (decide (a.length < b.length) || decide (Builtin.Str.strKind a < Builtin.Str.strKind b))
    · cases hf : (Builtin.Str.occurrences a b 0 a.length (a.length + 1)).isEmpty
      · refine call_meets F.slot_str_split (typeIs_str _ _ _) F.entry_str_split (F.args_str_split_2 _ _) (meets_str_split_sep a b t u h1 hb hf (by omega) hn) ?_
        show EP X pins σ Q (.ref s.heap.objs.size) { s with toks := _, heap := s.heap.push { cls := .type "list", data := .seq (strsFrom s.toks (Builtin.Str.partsBetween a (Builtin.Str.occurrences a b 0 a.length (a.length + 1)) b.length)).toArray } }
        rw [strsFrom_eq]
        exact laid_strs (ys := Txt.split a b) I ((numbered_texts _ _).trans ((if_neg (ne_true_of_eq_false h1)).trans (if_neg (ne_true_of_eq_false hf))).symm) hl h
      · refine call_meets F.slot_str_split (typeIs_str _ _ _) F.entry_str_split (F.args_str_split_2 _ _) (meets_str_split_not_found a b t u h1 hb hf) ?_
        exact laid_strs (l := [(a, t)]) (ys := Txt.split a b) (k := s.toks) I ((if_neg (ne_true_of_eq_false h1)).trans (if_pos hf)).symm hl h
    · refine call_meets F.slot_str_split (typeIs_str _ _ _) F.entry_str_split (F.args_str_split_2 _ _) (meets_str_split_cannot_occur a b t u h1) ?_
      exact laid_strs (l := [(a, t)]) (ys := Txt.split a b) (k := s.toks) I (if_pos h1).symm hl h

theorem words_le (x : Str) : (Txt.words x).length ≤ x.length + 1 := by
  have e1 := StrLaws.words_weight x
  omega
/-- x.split() -/
theorem mt_words : MtR X "str.split" (fun x xs H Q => ∃ a, x = .str a ∧ xs = [] ∧ a.length + 2 ≤ sizeLine ∧ rNewStrs (Txt.words a) H Q) := by
  intro pins s σ H x xs v us Q I rx rs h
  obtain ⟨a, rfl, rfl, hz, h⟩ := h
  obtain ⟨t, rfl⟩ := rx
  cases rs
  have hl : (Txt.words a).length ≤ sizeLine := Nat.le_trans (words_le a) (by omega)
  have hn : (Builtin.Str.spaceWords a (a.length + 1)).length ≤ sizeLine := by
    have e1 := (StrLaws.sw_weight a).1
    have e2 := StrLaws.len_le_wsum (Builtin.Str.spaceWords a (a.length + 1))
    omega
  refine call_meets F.slot_str_split (typeIs_str _ _ _) F.entry_str_split (F.args_str_split_1 _) (meets_str_split_space a t (by omega) hn) ?_
  cases hw : Builtin.Str.spaceWords a (a.length + 1) == [(0, a.length)]
  · simp only [Bool.false_eq_true, if_false]
    rw [strsFrom_eq]
    exact laid_strs (ys := Txt.words a) I ((numbered_texts _ _).trans (if_neg (ne_true_of_eq_false hw)).symm) hl h
  · simp only [if_true]
    exact laid_strs (l := [(a, t)]) (ys := Txt.words a) (k := s.toks) I (if_pos hw).symm hl h

/-- x.partition(sep) -/
theorem mt_partition : MtR X "str.partition" (fun x xs H Q => ∃ a b, x = .str a ∧ xs = [.str b] ∧ (b.length == 0) = false ∧ a.length ≤ sizeLine ∧
    ∀ p, H p = none → Q (.ref p) (upd H p (.tup [.str (Txt.partition a b).1, .str (Txt.partition a b).2.1, .str (Txt.partition a b).2.2]))) := by
  intro pins s σ H x xs v us Q I rx rs h
  obtain ⟨a, b, rfl, rfl, hb, hz, h⟩ := h
  obtain ⟨t, rfl⟩ := rx
  cases rs with
  | cons r1 rs =>
    cases rs
    obtain ⟨u, rfl⟩ := r1
    refine call_meets F.slot_str_partition (typeIs_str _ _ _) F.entry_str_partition (F.args_str_partition_2 _ _) (meets_str_partition a b t u hb hz) ?_
    unfold Txt.partition at h
    revert h
    cases Builtin.Str.occurrences a b 0 a.length 1 with
    | nil => intro h; exact laid_parts I h
    | cons i r => intro h; exact laid_parts I h

/-- sep.join(a list | a tuple of texts) -/
theorem mt_join : MtR X "str.join" (fun x xs H Q => ∃ a p, ∃ ys : List Str, x = .str a ∧ xs = [.ref p] ∧ (SqL X.K H p (ys.map V.str) ∨ SqT X.K H p (ys.map V.str)) ∧
    (ys.map (·.length)).sum + ys.length * a.length ≤ 16777216 ∧ Q (.str (Txt.join a ys)) H) := by
  intro pins s σ H x xs v us Q I rx rs h
  obtain ⟨a, p, ys, rfl, rfl, hp, hz, h⟩ := h
  obtain ⟨t, rfl⟩ := rx
  cases rs with
  | cons r1 rs =>
    cases rs
    cases r1
    rcases hp with hp | hp
    · obtain ⟨its, r, ⟨o, n, ho, hc, _, hd⟩, _⟩ := I.list hp
      exact PyProof.Rows.join_list (items := its.toArray) ⟨o, ho, hc, n, hd⟩ (by rw [List.toList_toArray]; exact strs_of_vals r) hz fun t' k => ⟨.str _, H, I.tok k, ⟨t', rfl⟩, h⟩
    · obtain ⟨its, r, ht, _⟩ := I.tuple hp
      exact PyProof.Rows.join_tuple (items := its.toArray) ht (by rw [List.toList_toArray]; exact strs_of_vals r) hz fun t' k => ⟨.str _, H, I.tok k, ⟨t', rfl⟩, h⟩

/-! ### of a text alone -/
theorem mt0 {id : String} {C : Str → Prop} {g : Str → V} (rule : ∀ (a : Str) (t : Tok) (s : Shared) (Q : Value → Shared → Prop), C a → (∀ (u : Value) (k : Nat), RelV (g a) u → Q u { s with toks := k }) →
    wpAny (model X.prog X.w) X.A (call (.builtin id) [.str a t]) Q X.xe s) : MtR X id (fun x xs H Q => ∃ a, x = .str a ∧ xs = [] ∧ C a ∧ Q (g a) H) := by
  intro pins s σ H x xs v us Q I rx rs h
  obtain ⟨a, rfl, rfl, hc, h⟩ := h
  obtain ⟨t, rfl⟩ := rx
  cases rs
  exact rule a t s _ hc fun u k r => ⟨g a, H, I.tok k, r, h⟩
theorem mt_strip : MtR X "str.strip" (fun x xs H Q => ∃ a, x = .str a ∧ xs = [] ∧ a.length ≤ sizeLine ∧ Q (.str (Txt.strip a)) H) :=
  mt0 (C := fun a => a.length ≤ sizeLine) (g := fun a => .str (Txt.strip a)) fun _ _ _ _ hc h => PySem.SC.strip (fun t' k => h _ k ⟨t', rfl⟩) hc
theorem mt_lstrip : MtR X "str.lstrip" (fun x xs H Q => ∃ a, x = .str a ∧ xs = [] ∧ a.length ≤ sizeLine ∧ Q (.str (Txt.lstrip a)) H) :=
  mt0 (C := fun a => a.length ≤ sizeLine) (g := fun a => .str (Txt.lstrip a)) fun _ _ _ _ hc h => PySem.SC.lstrip (fun t' k => h _ k ⟨t', rfl⟩) hc
theorem mt_rstrip : MtR X "str.rstrip" (fun x xs H Q => ∃ a, x = .str a ∧ xs = [] ∧ a.length ≤ sizeLine ∧ Q (.str (Txt.rstrip a)) H) :=
  mt0 (C := fun a => a.length ≤ sizeLine) (g := fun a => .str (Txt.rstrip a)) fun _ _ _ _ hc h => PySem.SC.rstrip (fun t' k => h _ k ⟨t', rfl⟩) hc
theorem mt_lower : MtR X "str.lower" (fun x xs H Q => ∃ a, x = .str a ∧ xs = [] ∧ a.length ≤ 5592405 ∧ Q (.str (Txt.lower a)) H) :=
  mt0 (C := fun a => a.length ≤ 5592405) (g := fun a => .str (Txt.lower a)) fun a _ s _ hc h =>
    PySem.SC.lower (notLong (by have h1 : a.length ≤ 5592405 := hc; have := PyProof.Rows.len_lower a; omega)) (h _ (s.toks + 1) ⟨_, rfl⟩)
theorem mt_upper : MtR X "str.upper" (fun x xs H Q => ∃ a, x = .str a ∧ xs = [] ∧ a.length ≤ 5592405 ∧ Q (.str (Txt.upper a)) H) :=
  mt0 (C := fun a => a.length ≤ 5592405) (g := fun a => .str (Txt.upper a)) fun a _ s _ hc h =>
    PySem.SC.upper (notLong (by have h1 : a.length ≤ 5592405 := hc; have := PyProof.Rows.len_upper a; omega)) (h _ (s.toks + 1) ⟨_, rfl⟩)
theorem mt_isdigit : MtR X "str.isdigit" (fun x xs H Q => ∃ a, x = .str a ∧ xs = [] ∧ True ∧ Q (.bl (Txt.isdigit a)) H) :=
  mt0 (C := fun _ => True) (g := fun a => .bl (Txt.isdigit a)) fun _ _ s _ _ h => PySem.SC.isdigit (h _ s.toks rfl)
theorem mt_isalpha : MtR X "str.isalpha" (fun x xs H Q => ∃ a, x = .str a ∧ xs = [] ∧ True ∧ Q (.bl (Txt.isalpha a)) H) :=
  mt0 (C := fun _ => True) (g := fun a => .bl (Txt.isalpha a)) fun _ _ s _ _ h => PySem.SC.isalpha (h _ s.toks rfl)
theorem mt_isalnum : MtR X "str.isalnum" (fun x xs H Q => ∃ a, x = .str a ∧ xs = [] ∧ True ∧ Q (.bl (Txt.isalnum a)) H) :=
  mt0 (C := fun _ => True) (g := fun a => .bl (Txt.isalnum a)) fun _ _ s _ _ h => PySem.SC.isalnum (h _ s.toks rfl)
theorem mt_isspace : MtR X "str.isspace" (fun x xs H Q => ∃ a, x = .str a ∧ xs = [] ∧ True ∧ Q (.bl (Txt.isspace a)) H) :=
  mt0 (C := fun _ => True) (g := fun a => .bl (Txt.isspace a)) fun _ _ s _ _ h => PySem.SC.isspace (h _ s.toks rfl)

/-! ### of a text and a text -/
theorem mt1 {id : String} {g : Str → Str → V} (rule : ∀ (a b : Str) (t u : Tok) (s : Shared) (Q : Value → Shared → Prop), (∀ (v : Value) (k : Nat), RelV (g a b) v → Q v { s with toks := k }) →
    wpAny (model X.prog X.w) X.A (call (.builtin id) [.str a t, .str b u]) Q X.xe s) : MtR X id (fun x xs H Q => ∃ a b, x = .str a ∧ xs = [.str b] ∧ Q (g a b) H) := by
  intro pins s σ H x xs v us Q I rx rs h
  obtain ⟨a, b, rfl, rfl, h⟩ := h
  obtain ⟨t, rfl⟩ := rx
  cases rs with
  | cons r1 rs =>
    cases rs
    obtain ⟨u, rfl⟩ := r1
    exact rule a b t u s _ fun v k r => ⟨g a b, H, I.tok k, r, h⟩
theorem mt_startswith : MtR X "str.startswith" (fun x xs H Q => ∃ a b, x = .str a ∧ xs = [.str b] ∧ Q (.bl (Txt.startswith a b)) H) :=
  mt1 (g := fun a b => .bl (Txt.startswith a b)) fun _ _ _ _ s _ h => PySem.SC.startswith (h _ s.toks rfl)
theorem mt_endswith : MtR X "str.endswith" (fun x xs H Q => ∃ a b, x = .str a ∧ xs = [.str b] ∧ Q (.bl (Txt.endswith a b)) H) :=
  mt1 (g := fun a b => .bl (Txt.endswith a b)) fun _ _ _ _ s _ h => PySem.SC.endswith (h _ s.toks rfl)
theorem mt_find : MtR X "str.find" (fun x xs H Q => ∃ a b, x = .str a ∧ xs = [.str b] ∧ Q (.int (Txt.find a b)) H) :=
  mt1 (g := fun a b => .int (Txt.find a b)) fun _ _ _ _ s _ h => PySem.SC.find (h _ (s.toks + 1) ⟨_, rfl⟩)
theorem mt_count : MtR X "str.count" (fun x xs H Q => ∃ a b, x = .str a ∧ xs = [.str b] ∧ Q (.int (Txt.count a b)) H) :=
  mt1 (g := fun a b => .int (Txt.count a b)) fun _ _ _ _ s _ h => PySem.SC.count (h _ (s.toks + 1) ⟨_, rfl⟩)

/-- int(text) -/
theorem call_int_str : CallR X (.type "int") (fun xs H Q => ∃ a n, xs = [.str a] ∧ PySem.intText? a = some n ∧ a.length ≤ 640 ∧ Q (.int n) H) := by
  intro pins s σ H xs us Q I rs h
  obtain ⟨a, n, rfl, hn, hl, h⟩ := h
  cases rs with
  | cons r1 rs =>
    cases rs
    obtain ⟨t, rfl⟩ := r1
    exact PySem.W.KIN.call_text hn hl ⟨.int n, H, I.tok _, ⟨_, rfl⟩, h⟩
end

section
variable {X : Cx} {o e : Expr} {to te : TE}
def tM0 (r : V → List V → Hp → VK → Prop) (to : TE) : TE := fun σ H Q => to σ H fun x H1 => (∃ a, x = .str a) ∧ r x [] H1 Q
def tM1 (r : V → List V → Hp → VK → Prop) (to te : TE) : TE := fun σ H Q => to σ H fun x H1 => (∃ a, x = .str a) ∧ te σ H1 fun y H2 => r x [y] H2 Q
theorem pe_m0 {id : String} {name : Str} {apos pos : Pos} {r : V → List V → Hp → VK → Prop} (slot : Slot "str" name id) (ty : typeOf (.builtin id) = pure (.type "method_descriptor")) (rule : MtR X id r) (ho : PE X o to)
    (hbase : attributeBase o name X.env (eval o X.env) = eval o X.env := by rfl) (hline : (apos.endLine == pos.line) = true := by rfl) : PE X (.Call (.Attribute o name apos) [] [] pos) (tM0 r to) := by
  intro pins s σ H Q I h
  refine PySem.Call_method0 hbase hline (thn (ho pins s σ H _ I h) fun v s1 ⟨x, H1, I1, r1, q1⟩ => ?_)
  obtain ⟨⟨a, rfl⟩, q1⟩ := q1
  obtain ⟨t, rfl⟩ := _root_.id r1
  exact ⟨"str", _, F.plainAttrs_str, slot, ty, typeIs_str _ _ _, (fun _ e => nomatch e), Calls.callWith_builtin rfl (PySem.evalArgs_none (rule pins s1 σ H1 _ [] _ [] Q I1 r1 .nil q1))⟩
theorem pe_m1 {id : String} {name : Str} {apos pos : Pos} {r : V → List V → Hp → VK → Prop} (slot : Slot "str" name id) (ty : typeOf (.builtin id) = pure (.type "method_descriptor")) (rule : MtR X id r) (ho : PE X o to) (he : PE X e te)
    (hs : starEach [e] X.env = [(false, eval e X.env)] := by rfl) (hbase : attributeBase o name X.env (eval o X.env) = eval o X.env := by rfl) (hline : (apos.endLine == pos.line) = true := by rfl) :
    PE X (.Call (.Attribute o name apos) [e] [] pos) (tM1 r to te) := by
  intro pins s σ H Q I h
  refine PySem.Call_method1 hbase hs hline (thn (ho pins s σ H _ I h) fun v s1 ⟨x, H1, I1, r1, q1⟩ => ?_)
  obtain ⟨⟨a, rfl⟩, q1⟩ := q1
  obtain ⟨t, rfl⟩ := _root_.id r1
  refine ⟨"str", _, F.plainAttrs_str, slot, ty, typeIs_str _ _ _, (fun _ e => nomatch e), Calls.callWith_builtin rfl (Calls.evalArgs_plain (Calls.spliced_cons ?_))⟩
  exact thn (he pins s1 σ H1 _ I1 q1) fun u s2 ⟨y, H2, I2, r2, q2⟩ => Calls.spliced_nil (rule pins s2 σ H2 _ [y] _ [u] Q I2 r1 (.cons r2 .nil) q2)

theorem pe_split {apos pos : Pos} (ho : PE X o to) (he : PE X e te) (hs : starEach [e] X.env = [(false, eval e X.env)] := by rfl) (hbase : attributeBase o "split" X.env (eval o X.env) = eval o X.env := by rfl) (hline : (apos.endLine == pos.line) = true := by rfl) :
    PE X (.Call (.Attribute o "split" apos) [e] [] pos) (tM1 (fun x xs H Q => ∃ a b, x = .str a ∧ xs = [.str b] ∧ (b.length == 0) = false ∧ a.length + 2 ≤ sizeLine ∧ rNewStrs (Txt.split a b) H Q) to te) :=
  pe_m1 F.slot_str_split F.type_str_split mt_split ho he hs hbase hline
theorem pe_words {apos pos : Pos} (ho : PE X o to) (hbase : attributeBase o "split" X.env (eval o X.env) = eval o X.env := by rfl) (hline : (apos.endLine == pos.line) = true := by rfl) :
    PE X (.Call (.Attribute o "split" apos) [] [] pos) (tM0 (fun x xs H Q => ∃ a, x = .str a ∧ xs = [] ∧ a.length + 2 ≤ sizeLine ∧ rNewStrs (Txt.words a) H Q) to) :=
  pe_m0 F.slot_str_split F.type_str_split mt_words ho hbase hline
theorem pe_partition {apos pos : Pos} (ho : PE X o to) (he : PE X e te) (hs : starEach [e] X.env = [(false, eval e X.env)] := by rfl) (hbase : attributeBase o "partition" X.env (eval o X.env) = eval o X.env := by rfl) (hline : (apos.endLine == pos.line) = true := by rfl) :
    PE X (.Call (.Attribute o "partition" apos) [e] [] pos) (tM1 (fun x xs H Q => ∃ a b, x = .str a ∧ xs = [.str b] ∧ (b.length == 0) = false ∧ a.length ≤ sizeLine ∧
      ∀ p, H p = none → Q (.ref p) (upd H p (.tup [.str (Txt.partition a b).1, .str (Txt.partition a b).2.1, .str (Txt.partition a b).2.2]))) to te) :=
  pe_m1 F.slot_str_partition F.type_str_partition mt_partition ho he hs hbase hline
theorem pe_join {apos pos : Pos} (ho : PE X o to) (he : PE X e te) (hs : starEach [e] X.env = [(false, eval e X.env)] := by rfl) (hbase : attributeBase o "join" X.env (eval o X.env) = eval o X.env := by rfl) (hline : (apos.endLine == pos.line) = true := by rfl) :
    PE X (.Call (.Attribute o "join" apos) [e] [] pos) (tM1 (fun x xs H Q => ∃ a p, ∃ ys : List Str, x = .str a ∧ xs = [.ref p] ∧ (SqL X.K H p (ys.map V.str) ∨ SqT X.K H p (ys.map V.str)) ∧
      (ys.map (·.length)).sum + ys.length * a.length ≤ 16777216 ∧ Q (.str (Txt.join a ys)) H) to te) :=
  pe_m1 F.slot_str_join F.type_str_join mt_join ho he hs hbase hline
theorem pe_strip {apos pos : Pos} (ho : PE X o to) (hbase : attributeBase o "strip" X.env (eval o X.env) = eval o X.env := by rfl) (hline : (apos.endLine == pos.line) = true := by rfl) :
    PE X (.Call (.Attribute o "strip" apos) [] [] pos) (tM0 (fun x xs H Q => ∃ a, x = .str a ∧ xs = [] ∧ a.length ≤ sizeLine ∧ Q (.str (Txt.strip a)) H) to) :=
  pe_m0 F.slot_str_strip F.type_str_strip mt_strip ho hbase hline
theorem pe_lower {apos pos : Pos} (ho : PE X o to) (hbase : attributeBase o "lower" X.env (eval o X.env) = eval o X.env := by rfl) (hline : (apos.endLine == pos.line) = true := by rfl) :
    PE X (.Call (.Attribute o "lower" apos) [] [] pos) (tM0 (fun x xs H Q => ∃ a, x = .str a ∧ xs = [] ∧ a.length ≤ 5592405 ∧ Q (.str (Txt.lower a)) H) to) :=
  pe_m0 F.slot_str_lower F.type_str_lower mt_lower ho hbase hline
theorem pe_upper {apos pos : Pos} (ho : PE X o to) (hbase : attributeBase o "upper" X.env (eval o X.env) = eval o X.env := by rfl) (hline : (apos.endLine == pos.line) = true := by rfl) :
    PE X (.Call (.Attribute o "upper" apos) [] [] pos) (tM0 (fun x xs H Q => ∃ a, x = .str a ∧ xs = [] ∧ a.length ≤ 5592405 ∧ Q (.str (Txt.upper a)) H) to) :=
  pe_m0 F.slot_str_upper F.type_str_upper mt_upper ho hbase hline
end
end L2

namespace L2
open PySem PySem.Spec PyProof.Rows

section
variable {X : Cx}
theorem op_le_str : OpR X (compareOp .LtE) (fun x y H Q => ∃ i j, x = .str i ∧ y = .str j ∧ Q (.bl (!decide (j.cps.toList < i.cps.toList))) H) := by
  intro pins s σ H x y v u Q I rx ry h
  obtain ⟨i, j, rfl, rfl, q⟩ := h
  obtain ⟨t, rfl⟩ := rx
  obtain ⟨t', rfl⟩ := ry
  exact PySem.P.le_str (fin_bl I q rfl)
theorem op_gt_str : OpR X (compareOp .Gt) (fun x y H Q => ∃ i j, x = .str i ∧ y = .str j ∧ Q (.bl (decide (j.cps.toList < i.cps.toList))) H) := by
  intro pins s σ H x y v u Q I rx ry h
  obtain ⟨i, j, rfl, rfl, q⟩ := h
  obtain ⟨t, rfl⟩ := rx
  obtain ⟨t', rfl⟩ := ry
  exact PySem.P.gt_str (fin_bl I q rfl)
theorem op_ge_str : OpR X (compareOp .GtE) (fun x y H Q => ∃ i j, x = .str i ∧ y = .str j ∧ Q (.bl (!decide (i.cps.toList < j.cps.toList))) H) := by
  intro pins s σ H x y v u Q I rx ry h
  obtain ⟨i, j, rfl, rfl, q⟩ := h
  obtain ⟨t, rfl⟩ := rx
  obtain ⟨t', rfl⟩ := ry
  exact PySem.P.ge_str (fin_bl I q rfl)
/-- one sign in a text -/
theorem op_in_sign : OpR X (compareOp .In) (fun x y H Q => ∃ (c : Nat) (z : Str), x = .str ⟨#[c]⟩ ∧ y = .str z ∧ Q (.bl (decide (c ∈ z.cps.toList))) H) := by
  intro pins s σ H x y v u Q I rx ry h
  obtain ⟨c, z, rfl, rfl, q⟩ := h
  obtain ⟨t, rfl⟩ := rx
  obtain ⟨t', rfl⟩ := ry
  exact PyProof.Rows.in_str (fin_bl I q (PySem.StrLaws.found_one z c).symm)
theorem op_notIn_sign : OpR X (compareOp .NotIn) (fun x y H Q => ∃ (c : Nat) (z : Str), x = .str ⟨#[c]⟩ ∧ y = .str z ∧ Q (.bl (!decide (c ∈ z.cps.toList))) H) := by
  intro pins s σ H x y v u Q I rx ry h
  obtain ⟨c, z, rfl, rfl, q⟩ := h
  obtain ⟨t, rfl⟩ := rx
  obtain ⟨t', rfl⟩ := ry
  exact PyProof.Rows.notIn_str (fin_bl I q (congrArg Bool.not (PySem.StrLaws.found_one z c).symm))
end

/-! ### slices of a text -/
theorem IsPart.raw {v : Value} {o : Option Int} (p : IsPart v o) : ∃ l : Option (Int × Tok), v = partValue l ∧ l.map (·.1) = o := by
  cases p with
  | none => exact ⟨none, rfl, rfl⟩
  | int i t => exact ⟨some (i, t), rfl, rfl⟩

/-- a part, clipped, as the text's slice reckons it -/
def clipS (n d : Nat) : Option Int → Int
  | none => (d : Int)
  | some i => max 0 (min (if i < 0 then i + (n : Int) else i) (n : Int))
theorem clipS_eq (n d : Nat) (o : Option Int) : clipS n d o = ((HT.sIx n d o : Nat) : Int) := by
  cases o with
  | none => rfl
  | some v =>
    show max (0 : Int) (min (if v < 0 then v + (n : Int) else v) (n : Int)) = (((if v < 0 then (v + (n : Int)).toNat else min v.toNat n) : Nat) : Int)
    by_cases hv : v < 0
    · simp only [if_pos hv]
      omega
    · simp only [if_neg hv]
      omega
theorem sidx_clip (a b : Option Int) (n : Nat) : Builtin.Str.strSliceIndices a b 1 n = sliceRange (clipS n 0 a) (clipS n n b) 1 := by
  have h1 : ((1 : Int) > 0) = True := by simp
  cases a <;> cases b <;> first
    | rfl
    | (simp only [Builtin.Str.strSliceIndices, clipS, h1, if_true]; rfl)
    | simp [Builtin.Str.strSliceIndices, clipS]
theorem sidx (a b : Option Int) (n : Nat) : Builtin.Str.strSliceIndices a b 1 n = (List.range (HT.sIx n n b - HT.sIx n 0 a)).map (fun k => HT.sIx n 0 a + k) := by
  rw [sidx_clip, clipS_eq, clipS_eq]
  generalize HT.sIx n 0 a = p
  generalize HT.sIx n n b = q
  simp only [sliceRange, show ((1 : Int) > 0) = True from by simp, if_true]
  by_cases hlt : (p : Int) < q
  · have e3 : (((q : Int) - p + 1 - 1) / 1).toNat = q - p := by first | omega | (simp; done) | (simp; omega)
    simp only [hlt, if_true, e3]
    refine List.map_congr_left fun k _ => ?_
    omega
  · have : q - p = 0 := by omega
    simp [hlt, this]

/-- z[lo:hi] -/
def cutS (z : Str) (lo hi : Option Int) : Str :=
  ⟨((z.cps.toList.drop (HT.sIx z.length 0 lo)).take (HT.sIx z.length z.length hi - HT.sIx z.length 0 lo)).toArray⟩
theorem sliceText_cut (z : Str) (lo hi : Option Int) : PySem.StrLaws.sliceText z lo hi = cutS z lo hi := by
  have h1 : HT.sIx z.length 0 lo ≤ z.length := HT.sIx_le _ _ (Nat.zero_le _) _
  have h2 : HT.sIx z.length z.length hi ≤ z.length := HT.sIx_le _ _ (Nat.le_refl _) _
  have hp : HT.sIx z.length 0 lo ≤ max (HT.sIx z.length 0 lo) (HT.sIx z.length z.length hi) := Nat.le_max_left _ _
  have hq : max (HT.sIx z.length 0 lo) (HT.sIx z.length z.length hi) ≤ z.length := Nat.max_le.mpr ⟨h1, h2⟩
  have hd : max (HT.sIx z.length 0 lo) (HT.sIx z.length z.length hi) - HT.sIx z.length 0 lo = HT.sIx z.length z.length hi - HT.sIx z.length 0 lo := by omega
  have e : Builtin.Str.strSliceIndices lo hi 1 z.length =
      Builtin.Str.strSliceIndices (some ((HT.sIx z.length 0 lo : Nat) : Int)) (some ((max (HT.sIx z.length 0 lo) (HT.sIx z.length z.length hi) : Nat) : Int)) 1 z.length := by
    rw [PySem.StrLaws.strSliceIndices_plain hp hq, hd, sidx]
  have e2 : PySem.StrLaws.sliceText z lo hi =
      PySem.StrLaws.sliceText z (some ((HT.sIx z.length 0 lo : Nat) : Int)) (some ((max (HT.sIx z.length 0 lo) (HT.sIx z.length z.length hi) : Nat) : Int)) := by
    unfold PySem.StrLaws.sliceText
    rw [e]
  rw [e2, PySem.StrLaws.sliceText_nat z hp hq, hd]
  rfl
theorem cutS_length (z : Str) (lo hi : Option Int) : (cutS z lo hi).length ≤ z.length := by
  show (((z.cps.toList.drop (HT.sIx z.length 0 lo)).take (HT.sIx z.length z.length hi - HT.sIx z.length 0 lo)).toArray).size ≤ z.cps.size
  rw [List.size_toArray, List.length_take, List.length_drop, Array.length_toList]
  omega
def rSlS : V → Option Int → Option Int → Hp → VK → Prop := fun x lo hi H Q => ∃ z, x = .str z ∧ z.length ≤ sizeLine ∧ Q (.str (cutS z lo hi)) H
theorem sl_str {X : Cx} : SlR X rSlS := by
  intro pins s σ H x v vl vu lo hi sl Q I rx hs pl pu h
  obtain ⟨z, rfl, hz, q⟩ := h
  obtain ⟨t, rfl⟩ := rx
  obtain ⟨os, hos, hcs, hds⟩ := hs
  obtain ⟨l, rfl, rfl⟩ := IsPart.raw pl
  obtain ⟨u, rfl, rfl⟩ := IsPart.raw pu
  refine ⟨"str", _, F.slot_str_getitem.lookup, typeIs_str _ _ _, ?_⟩
  refine wpAny_getItem_str_slice (l := l) (u := u) (st := none) ⟨os, hos, hcs, hds⟩ rfl ?_
  have hl : (PySem.StrLaws.sliceText z (l.map (·.1)) (u.map (·.1))).length ≤ sizeLine := by
    rw [sliceText_cut]
    exact Nat.le_trans (cutS_length z _ _) hz
  rw [← sliceText_cut] at q
  unfold PySem.StrLaws.sliceText at q hl
  show Made.post (if ((1 : Int) == 1 && (Builtin.Str.strSliceIndices (l.map (·.1)) (u.map (·.1)) 1 z.length).length == z.length) = true then Made.val (.str z t)
    else Made.str ⟨((Builtin.Str.strSliceIndices (l.map (·.1)) (u.map (·.1)) 1 z.length).filterMap (z.cps[·]?)).toArray⟩) (EP X pins σ Q) s
  by_cases c : ((1 : Int) == 1 && (Builtin.Str.strSliceIndices (l.map (·.1)) (u.map (·.1)) 1 z.length).length == z.length) = true
  · rw [if_pos c] at q ⊢
    exact ⟨.str z, H, I, ⟨t, rfl⟩, q⟩
  · rw [if_neg c] at q hl ⊢
    exact ⟨hl, .str _, H, I.tok _, ⟨_, rfl⟩, q⟩
end L2

namespace Att
open PySem PySem.W PySem.Calls PyProof.Rows

/-! ### the script -/
theorem ints_of_wellAll {P : Params} {h : Heap} : ∀ (ns : List Int) (vs : List Value), WellAll P h vs (ns.map WData.int) → IntsAre vs ns := by
  intro ns
  induction ns with
  | nil =>
    intro vs w
    rw [List.map_nil] at w
    cases w
    exact .nil
  | cons n ns ih =>
    intro vs w
    rw [List.map_cons] at w
    cases w with
    | cons a b =>
      cases a
      exact .cons _ _ (ih _ b)

theorem script_of {l : OpenLaw} {n : Nat} (hn : l.most = some n) {P : Params} {h : Heap} {args : List WData} {vals : List Value}
    (hpre : l.row.toRowW.claim.pre args = true) (hwl : WellAll P h vals args) :
    ∃ a vs ns, vals = [Value.ref a] ∧ args = [WData.list (ns.map WData.int)] ∧ h.get? a = some { cls := .type "list", data := .seq vs.toArray } ∧ IntsAre vs ns ∧ ns.length ≤ n := by
  have hsh : WShape.hasAll [] args [.list .int] = true := (pre_splitW hpre).1
  have hc : l.pre.holds [] { args := args } = true := (pre_splitW hpre).2
  obtain ⟨d, r, rfl, h1, h2⟩ := hasAllW_cons hsh
  obtain rfl := hasAllW_nil h2
  obtain ⟨xs, rfl, h3⟩ := hasW_list h1
  obtain ⟨ns, rfl⟩ := items_int h3
  have hlen : ns.length ≤ n := by
    unfold OpenLaw.pre at hc
    have h4 : (WTm.not (.lt (.lit (.int (n : Int))) (.len (.arg 0)))).holds [] { args := [.list (ns.map .int)] } = true := by
      have h4 := (holds_andW hc).1
      rw [hn] at h4
      exact h4
    have h5 := condW_of h4 (w_not (w_lt w_lit (w_len_list (w_arg rfl))))
    rw [List.length_map] at h5
    refine Nat.le_of_not_lt fun q => ?_
    have q' : (n : Int) < ((ns.length : Nat) : Int) := by omega
    first
      | (rw [decide_eq_true q'] at h5; exact absurd h5 (by decide))
      | (simp at h5; omega)
  cases hwl with
  | cons w1 w2 =>
    cases w2
    cases w1 with
    | list ho hall => exact ⟨_, _, ns, rfl, rfl, ho, ints_of_wellAll ns _ hall, hlen⟩

theorem post_true (l : OpenLaw) (args : List WData) : l.row.toRowW.claim.post args (.bool true) args = true :=
  postW_of (r := l.row.toRowW) (X := (true == true))
    (show WShape.has [] (.bool true) .bool = true by first | rfl | decide | simp [WShape.has, WShape.arms, WShape.armsAll])
    (show (WTm.eq .res (.lit (.bool true))).value [] { args := args, res := some (.bool true), after := args } = some (.bool (true == true)) from w_eq_bool (w_res rfl) w_lit) rfl

/-! ### the attachment: holds_open's last premise (the goal 'hc' behind k_head) from a wpAny of the law's body -/
theorem attach {l : OpenLaw} {n : Nat} {q : Program} {loose : List Str} {XP : (Str → Option Value) → Heap → Prop} {YP : World → Heap → Prop} {d : DefRec} {x : Str}
    (hn : l.most = some n) (hdf : d.params.defaults = [])
    (hbind : ∀ pm cd doc v : Value, bindArgs (docDef d.name d.params d.body d.scope pm cd doc) ⟨[v], []⟩ = pure [(x, v)])
    (hx : d.scope.names.lookup x = some .local ∨ d.scope.names.lookup x = some .cell)
    (hk : d.scope.kind = .function) (hco : d.scope.isCoroutine = false) (hgen : d.scope.isGenerator = false)
    (body : ∀ (w : World) (s₀ s₁ s : Shared) (mg mb : Str → Option Value) (fa : Addr) (o : Obj) (pm cd doc : Value) (a : Addr) (vs : List Value) (ns : List Int),
      Ground q loose [] XP w s₀ mg mb s₁.heap → YP w s₁.heap →
      s₁.heap.get? fa = some o → o.data = .func (docDef d.name d.params d.body d.scope pm cd doc) → s₁.heap.CodeRec cd d.name → mg d.name = some (.ref fa) →
      s₁.heap.get? a = some { cls := .type "list", data := .seq vs.toArray } → IntsAre vs ns → ns.length ≤ n →
      s.gens = #[] → s.os = s₁.os →
      Fr s₁.heap s₁.heap.objs.size s.heap (bindL (envOfC d.name d.scope s₁.heap.objs.size fa cd).kindOf [(x, .ref a)] fun _ => none) →
      Cl s₁.heap.objs.size (cellsFrom (s₁.heap.objs.size + 1) d.scope.names []) s.heap (bindC (envOfC d.name d.scope s₁.heap.objs.size fa cd).kindOf [(x, .ref a)] fun _ => none) →
      wpAny (model l.prog w) (callerA.deeper (envOfC d.name d.scope s₁.heap.objs.size fa cd)) (execs d.body (envOfC d.name d.scope s₁.heap.objs.size fa cd))
        (fun f s' => f = .ret (.bool true) ∧ OldK s₁.heap s'.heap ∧ s'.os = s₁.os ∧ AllBare s'.gens) (fun _ _ => False) s) :
    WalkO q loose XP YP l.row.toRowW d [] (fun f vs => PySem.call f vs) := by
  intro w s₀ s₁ mg mb G Y fa o pm cd doc dV kV ho hd hcd hD hmg hg args vals as hpre hlay hrd hwl hlo
  obtain rfl : dV = .none := Dflts.none hD hdf
  obtain rfl : kV = .none := Dflts.noKw hD
  obtain ⟨a, vs, ns, rfl, rfl, hobj, hints, hlen⟩ := script_of hn hpre hwl
  refine enter_call ?_
  refine call_cells_ret (o := o) (by rw [depth_caller]; decide) ho (fd_plain hd) G.T.nolimit hcd (hbind pm cd doc (.ref a)) (fun y hy => ?_) (fun h₁ tk F X => ?_) hco hgen hk
  · obtain rfl : y = (x, Value.ref a) := List.mem_singleton.mp hy
    rcases hx with e | e
    · exact .inl e
    · exact .inr ⟨e, cellsFrom_some _ _ _ (.inl e)⟩
  · refine wpAny_mono (body w s₀ s₁ { s₁ with heap := h₁, toks := tk } mg mb fa o pm cd doc a vs ns G Y ho (fd_plain hd) hcd hmg hobj hints hlen hg rfl F X) (fun f s' hq => ?_) (fun _ _ hq => hq)
    obtain ⟨rfl, h2, h3, h4⟩ := hq
    exact ⟨.inl ⟨.bool true, .bool true, [], rfl, fun _ => rfl, .bool true, post_true l _, fun _ => ⟨List.Pairwise.nil, fun _ hm => (nomatch hm)⟩⟩, h2, h3, h4⟩

/-- the same from a codeAny of the CALL (for a layer whose function contracts speak of calls) -/
theorem attach_call {l : OpenLaw} {n : Nat} {q : Program} {loose : List Str} {XP : (Str → Option Value) → Heap → Prop} {YP : World → Heap → Prop} {d : DefRec}
    (hn : l.most = some n) (hdf : d.params.defaults = [])
    (call : ∀ (w : World) (s₀ s₁ : Shared) (mg mb : Str → Option Value) (fa : Addr) (o : Obj) (pm cd doc : Value) (a : Addr) (vs : List Value) (ns : List Int),
      Ground q loose [] XP w s₀ mg mb s₁.heap → YP w s₁.heap →
      s₁.heap.get? fa = some o → o.data = .func (docDef d.name d.params d.body d.scope pm cd doc) → s₁.heap.CodeRec cd d.name → mg d.name = some (.ref fa) →
      s₁.heap.get? a = some { cls := .type "list", data := .seq vs.toArray } → IntsAre vs ns → ns.length ≤ n → s₁.gens = #[] →
      codeAny (model l.prog w) callerA (.call (.ref fa) ⟨[.ref a], []⟩) (fun r s' => r = .ok (.ret (.bool true)) ∧ OldK s₁.heap s'.heap ∧ s'.os = s₁.os ∧ AllBare s'.gens) s₁) :
    WalkO q loose XP YP l.row.toRowW d [] (fun f vs => PySem.call f vs) := by
  intro w s₀ s₁ mg mb G Y fa o pm cd doc dV kV ho hd hcd hD hmg hg args vals as hpre hlay hrd hwl hlo
  obtain rfl : dV = .none := Dflts.none hD hdf
  obtain rfl : kV = .none := Dflts.noKw hD
  obtain ⟨a, vs, ns, rfl, rfl, hobj, hints, hlen⟩ := script_of hn hpre hwl
  refine enter_call (codeAny_mono (call w s₀ s₁ mg mb fa o pm cd doc a vs ns G Y ho (fd_plain hd) hcd hmg hobj hints hlen hg) fun r s' hq => ?_)
  obtain ⟨rfl, h2, h3, h4⟩ := hq
  exact ⟨.inl ⟨.bool true, .bool true, [], rfl, fun _ => rfl, .bool true, post_true l _, fun _ => ⟨List.Pairwise.nil, fun _ hm => (nomatch hm)⟩⟩, h2, h3, h4⟩

/-- the same where the top left finished generators (o_head chose holds_openN): nothing may have changed at all and no generator may be left -/
theorem attachN {l : OpenLaw} {n : Nat} {q : Program} {loose : List Str} {XP : (Str → Option Value) → Heap → Prop} {YP : World → Heap → Prop} {d : DefRec} {x : Str}
    (hn : l.most = some n) (hdf : d.params.defaults = [])
    (hbind : ∀ pm cd doc v : Value, bindArgs (docDef d.name d.params d.body d.scope pm cd doc) ⟨[v], []⟩ = pure [(x, v)])
    (hx : d.scope.names.lookup x = some .local ∨ d.scope.names.lookup x = some .cell)
    (hk : d.scope.kind = .function) (hco : d.scope.isCoroutine = false) (hgen : d.scope.isGenerator = false)
    (body : ∀ (w : World) (s₀ s₁ s : Shared) (mg mb : Str → Option Value) (fa : Addr) (o : Obj) (pm cd doc : Value) (a : Addr) (vs : List Value) (ns : List Int),
      Ground q loose [] XP w s₀ mg mb s₁.heap → YP w s₁.heap →
      s₁.heap.get? fa = some o → o.data = .func (docDef d.name d.params d.body d.scope pm cd doc) → s₁.heap.CodeRec cd d.name → mg d.name = some (.ref fa) →
      s₁.heap.get? a = some { cls := .type "list", data := .seq vs.toArray } → IntsAre vs ns → ns.length ≤ n →
      s.gens = #[] → s.os = s₁.os →
      Fr s₁.heap s₁.heap.objs.size s.heap (bindL (envOfC d.name d.scope s₁.heap.objs.size fa cd).kindOf [(x, .ref a)] fun _ => none) →
      Cl s₁.heap.objs.size (cellsFrom (s₁.heap.objs.size + 1) d.scope.names []) s.heap (bindC (envOfC d.name d.scope s₁.heap.objs.size fa cd).kindOf [(x, .ref a)] fun _ => none) →
      wpAny (model l.prog w) (callerA.deeper (envOfC d.name d.scope s₁.heap.objs.size fa cd)) (execs d.body (envOfC d.name d.scope s₁.heap.objs.size fa cd))
        (fun f s' => f = .ret (.bool true) ∧ (∀ b o, s₁.heap.get? b = some o → s'.heap.get? b = some o) ∧ s'.os = s₁.os ∧ s'.gens = #[]) (fun _ _ => False) s) :
    WalkN q loose XP YP l.row.toRowW d [] (fun f vs => PySem.call f vs) := by
  intro w s₀ s₁ mg mb G Y fa o pm cd doc dV kV ho hd hcd hD hmg hg args vals as hpre hlay hrd hwl hlo
  obtain rfl : dV = .none := Dflts.none hD hdf
  obtain rfl : kV = .none := Dflts.noKw hD
  obtain ⟨a, vs, ns, rfl, rfl, hobj, hints, hlen⟩ := script_of hn hpre hwl
  refine enter_callW ?_
  refine call_cells_ret (o := o) (by rw [depth_caller]; decide) ho (fd_plain hd) G.T.nolimit hcd (hbind pm cd doc (.ref a)) (fun y hy => ?_) (fun h₁ tk F X => ?_) hco hgen hk
  · obtain rfl : y = (x, Value.ref a) := List.mem_singleton.mp hy
    rcases hx with e | e
    · exact .inl e
    · exact .inr ⟨e, cellsFrom_some _ _ _ (.inl e)⟩
  · refine wpAny_mono (body w s₀ s₁ { s₁ with heap := h₁, toks := tk } mg mb fa o pm cd doc a vs ns G Y ho (fd_plain hd) hcd hmg hobj hints hlen hg rfl F X) (fun f s' hq => ?_) (fun _ _ hq => hq)
    obtain ⟨rfl, h2, h3, h4⟩ := hq
    exact ⟨.inl ⟨.bool true, .bool true, [], rfl, fun _ => rfl, .bool true, post_true l _, fun _ => ⟨List.Pairwise.nil, fun _ hm => (nomatch hm)⟩⟩, h2, h3, h4⟩

/-! ### rules over ANY heap (no ledger) from facts about the written part K: the library's own take a ledger (News) for what they write -/
section
variable {prog : Program} {w : World} {A : Around} {E : Value → Shared → Prop} {s : Shared} {K : Frag}

/-- a def of the module, or a method (qual 'C.m'), entered: the frame is the next address; cells behind it -/
theorem call_fn {R : Result → Shared → Prop} {name qual : Str} {params : Arguments} {body : List Stmt} {scope : Scope} {dV kV doc pm cdv ct oc : Value} {an od : Option Addr} {osl : Array (Option Value)} {f : Addr} {args : Args} {binds : List (Str × Value)}
    (X : K.In s.heap) (hlim : s.heap.NoLimit) (ho : K.lookup f = some ⟨oc, od, .func (fnOf name qual params body scope dV kV doc pm an cdv ct), osl⟩) (hcd : codeIn K cdv qual = true) (hroom : A.depth < recursionLimit)
    (hbind : BindsTo s (fnOf name qual params body scope dV kV doc pm an cdv ct) args binds)
    (hkind : (binds.all fun y => scope.names.lookup y.1 == some .local || scope.names.lookup y.1 == some .cell) = true)
    (h : ∀ s₁, InCallC s s.heap.objs.size (bindL (envOfC qual scope s.heap.objs.size f cdv).kindOf binds fun _ => none) (cellsFrom (s.heap.objs.size + 1) scope.names [])
        (bindC (envOfC qual scope s.heap.objs.size f cdv).kindOf binds fun _ => none) s₁ →
      wpAny (model prog w) (A.deeper (envOfC qual scope s.heap.objs.size f cdv)) (execs body (envOfC qual scope s.heap.objs.size f cdv))
        (fun fl s' => R (.ok (.ret (match fl with | .ret v => v | _ => .none))) s')
        (fun e s' => wpAny (model prog w) (A.deeper (envOfC qual scope s.heap.objs.size f cdv)) (leaving (envOfC qual scope s.heap.objs.size f cdv) e) (fun _ s'' => R (.error e) s'') (fun e' s'' => R (.error e') s'') s') s₁)
    (hco : scope.isCoroutine = false) (hgen : scope.isGenerator = false) (hk : scope.kind = .function) : codeAny (model prog w) A (.call (.ref f) args) R s := by
  refine codeAny_call_function hroom (X _ _ ho) rfl hco hgen rfl (codeRec_of X hcd) (hbind _ _ _ _ ?_)
  refine wpAny_newFunctionEnv_cells hk (kindsX hkind _) fun env he s₁ x => ?_
  subst he
  exact ⟨hlim.keeps x.toInCall.keep, codeAny_func (h s₁ x)⟩

/-- C(..): dict at size, instance at size + 1, then __init__ -/
theorem make_obj {R : Result → Shared → Prop} {C fI : Addr} {rest : List Value} {kw : List (Str × Value)}
    (X : K.In s.heap) (hm : makesIn K C = true) (hi : findIn K (.ref C) "__init__" = some (some (.ref fI))) (hf : isFn K (.ref fI) = true)
    (h : codeAny (model prog w) (A.under (.builtin "type.__call__" ⟨.ref C :: rest, kw⟩)) (.call (.ref fI) ⟨.ref (s.heap.objs.size + 1) :: rest, kw⟩) (InitBack (s.heap.objs.size + 1) R)
      { s with heap := (s.heap.push emptyDict).push (instObj C s.heap.objs.size) }) : codeAny (model prog w) A (.call (.ref C) ⟨rest, kw⟩) R s := by
  obtain ⟨hh, g, d, t, os⟩ := s
  exact make_core (makes_of X hm) (looks_findIn X hi) (fun self => bind_fn X self (beq_iff_eq.mp hf)) (.inl rfl) h

/-- x.name where the instance's dict holds the name and the class does not -/
theorem get_field {x C : Addr} {ox : Obj} {es : List DictEntry} {n : Nat} {name : Str} {expr : Bool} {v : Value} {Q : Value → Shared → Prop}
    (X : K.In s.heap) (I : PySem.W.InstAt s.heap x ox C (some (dictOf es n))) (hg : plainGet K C name = true) (hh : hasDictIn K C = true) (ha : findIn K (.ref C) name = some none)
    (hl : getL name es = some (some v)) (hv : handedIn v = true) (h : Q v { s with toks := s.toks + 1 }) : wpAny (model prog w) A (getAttr (.ref x) name expr) Q E s :=
  get_value X I (plainGet_of hg).1 (findObj_own hh ha rfl hl) hv h

/-- x.m(..): the method found in the class -/
theorem get_method {x C f : Addr} {ox : Obj} {es : List DictEntry} {n : Nat} {name : Str} {pl : Sem Bool} {Q : Value × List Value → Shared → Prop}
    (X : K.In s.heap) (I : PySem.W.InstAt s.heap x ox C (some (dictOf es n))) (hg : plainGet K C name = true) (hf : findIn K (.ref C) name = some (some (.ref f))) (ht : isFn K (.ref f) = true)
    (hl : getL name es = some none) (h : Q (.ref f, [.ref x]) s) : wpAny (model prog w) A (getMethod (.ref x) name pl) Q E s :=
  method_fn X I (plainGet_of hg).1 (plainGet_of hg).2 hf (beq_iff_eq.mp ht) (by show (lookIn name (dictOf es n)).map _ = _; rw [lookIn_dict, hl]; rfl) h

/-! the whole heap as the ledger: makes every rule that writes through a ledger a rule over any heap -/
def noObjs (h : Heap) : Heap := { h with objs := #[] }
theorem noObjs_get (h : Heap) (b : Addr) : (noObjs h).get? b = none := by
  cases e : (noObjs h).get? b with
  | none => rfl
  | some o => exact absurd (Heap.lt_size e) (Nat.not_lt_zero _)
def ledger (h : Heap) (L d : Addr) : List (Addr × Obj) := (List.range h.objs.size).filterMap fun a => if a = L ∨ a = d then none else (h.get? a).map fun o => (a, o)
theorem mem_ledger {h : Heap} {L d a : Addr} {o : Obj} : (a, o) ∈ ledger h L d ↔ a ≠ L ∧ a ≠ d ∧ h.get? a = some o := by
  unfold ledger
  rw [List.mem_filterMap]
  constructor
  · rintro ⟨b, _, e⟩
    split at e
    · cases e
    · rename_i hb
      obtain ⟨o', ho, e'⟩ := Option.map_eq_some_iff.mp e
      cases e'
      exact ⟨fun q => hb (.inl q), fun q => hb (.inr q), ho⟩
  · rintro ⟨n1, n2, ho⟩
    refine ⟨a, List.mem_range.mpr (Heap.lt_size ho), ?_⟩
    rw [if_neg (show ¬ (a = L ∨ a = d) from fun q => q.elim n1 n2), ho] <;> rfl
theorem news_ledger {h : Heap} {L d : Addr} {od : Obj} (hne : d ≠ L) (ho : h.get? d = some od) : News (noObjs h) L h ([] ++ (d, od) :: ledger h L d) := by
  rintro ⟨a, o⟩ hp
  rcases List.mem_cons.mp hp with e | hp
  · cases e
    exact ⟨ho, hne, noObjs_get _ _⟩
  · obtain ⟨n1, n2, e⟩ := mem_ledger.mp hp
    exact ⟨e, n1, noObjs_get _ _⟩
theorem fr_all {h : Heap} {L : Addr} {m : Str → Option Value} (n : h.Ns L m) : Fr (noObjs h) L h m :=
  ⟨n, fun b o e => (by rw [noObjs_get] at e; cases e), Nat.zero_le _⟩
/-- Upd of the head entry (for append_K, setItem_K ..) -/
theorem upd_ledger {h : Heap} {L d : Addr} {o o' : Obj} : Upd d o o' ((d, o) :: ledger h L d) ((d, o') :: ledger h L d) :=
  .head fun ⟨_, _⟩ hp => (mem_ledger.mp hp).2.1

/-- x.name = v over any heap: L is any namespace of the heap (the frame's, say): its map stays, its object is not told; all else but the dict stays -/
theorem set_field {x C dx L : Addr} {ox : Obj} {m : Str → Option Value} {es es' : List DictEntry} {n n' : Nat} {name : Str} {v : Value} {Q : Unit → Shared → Prop}
    (X : K.In s.heap) (I : PySem.W.InstAt s.heap x ox C (some (dictOf es n))) (hd : ox.dict = some dx) (hL : s.heap.Ns L m) (hne : dx ≠ L)
    (hs : findIn K (.ref C) "__setattr__" = some (some (.builtin "object.__setattr__"))) (hp : plainOver K C = true) (ht : takerIn K C name = some none) (hh : hasDictIn K C = true) (hl : (getL name es).isSome = true)
    (e : (putL name (PyData.keyHash w.params name) (.str name (s.toks + 1)) v es, putN name es n) = (es', n')) (hz : es'.length ≤ 1000)
    (h : ∀ h' : Heap, h'.Ns L m → h'.get? dx = some (dictOf es' n') → (∀ b o, b ≠ dx → b ≠ L → s.heap.get? b = some o → h'.get? b = some o) → Q () { s with heap := h', toks := s.toks + 2 }) :
    wpAny (model prog w) A (setAttr (.ref x) name v) Q E s := by
  obtain ⟨e1, e2⟩ := Prod.mk.inj e
  have hdx : s.heap.get? dx = some (dictOf es n) := by
    have := I.dict
    rw [hd] at this
    exact this
  refine set_plain X I hs (osa_dict (s := { s with toks := s.toks + 1 }) (h₀ := noObjs s.heap) (L := L) (m := m) (od := dictOf es n) (od' := dictOf es' n') (es := es') (n := n') (pre := []) (post := ledger s.heap L dx)
    (fr_all hL) (news_ledger hne hdx) X I hd hp ht hh hl (fun _ q => nomatch q) (fun ⟨_, _⟩ q => (mem_ledger.mp q).2.1) (by rw [putName_dict, e1, e2]) rfl hz fun h' F' N' => ?_)
  exact h h' F'.ns (N'.get (List.Mem.head _)) fun b o n1 n2 ho => N'.get (List.Mem.tail _ (mem_ledger.mpr ⟨n2, n1, ho⟩))
end
end Att

namespace L2
open PySem PySem.Spec PyProof.Rows

theorem vals_ints : ∀ {vs : List Value} {ns : List Int}, IntsAre vs ns → Vals (ns.map V.int) vs
  | _, _, .nil => .nil
  | _, _, .cons n t h => .cons ⟨t, rfl⟩ (vals_ints h)

/-- nothing is tracked but the script, known to the object (or it is an object of the module) -/
def Only (H : Hp) : Prop := ∀ b, H b = none ∨ ∃ o xs, H b = some (.frz o (.lst xs))

/-- THE HEAD: the law's promise, at the heap behind the top. F, the promise of the law's def, may use that base is part of the heap (so K.In base, base.Ns mainGlobals mg stand in Mod) -/
theorem law_call {P : Program} {w : World} {K : PySem.W.Frag} {mg mb : Str → Option Value} {CX : CXT} {k : Nat} {fa a : Addr} {fd : FuncData} {x : Str} {sp : Sp} {s₁ : Shared} {vs : List Value} {ns : List Int}
    (KX : K.In s₁.heap) (hns : s₁.heap.Ns mainGlobals mg) (hb : s₁.heap.Ns builtinsNs mb) (hbb : ∀ x : Str, x ≠ "__name__" → mb x = bootBuiltins x) (hlim : s₁.heap.NoLimit) (hg : s₁.gens = #[])
    (ha : s₁.heap.get? a = some { cls := .type "list", data := .seq vs.toArray }) (hi : IntsAre vs ns) (hl : ns.length ≤ sizeLine) (hr : Room k callerA)
    (F : ∀ base : Heap, K.In base → base.Ns mainGlobals mg → FnOk P w K mg base CX k fa fd [x] sp) (hbind : ∀ (s : Shared) (u : Value), BindsTo s fd ⟨[u], []⟩ [(x, u)])
    (hsp : ∀ H : Hp, Only H → SqL K H a (ns.map V.int) → sp [.ref a] H (fun v _ => v = .bl true) fun _ _ _ => False)
    (hCX : ∀ H e s', CX [] H s₁ (fun _ _ _ => False) e s' → False) :
    codeAny (model P w) callerA (.call (.ref fa) ⟨[.ref a], []⟩) (fun r s' => r = .ok (.ret (.bool true)) ∧ OldK s₁.heap s'.heap ∧ s'.os = s₁.os ∧ AllBare s'.gens) s₁ := by
  have rv := vals_ints hi
  have lenV := hi.length
  -- from an abstract heap in which nothing but the script may be tracked
  have core : ∀ H : Hp, Only H → SqL K H a (ns.map V.int) → HOk P w H s₁.heap → (∀ b, H b ≠ none → b = a) → (H a ≠ none → K.lookup a = none) →
      codeAny (model P w) callerA (.call (.ref fa) ⟨[.ref a], []⟩) (fun r s' => r = .ok (.ret (.bool true)) ∧ OldK s₁.heap s'.heap ∧ s'.os = s₁.os ∧ AllBare s'.gens) s₁ := by
    intro H hO hS hok hA hK
    have base_of : ∀ {b : Addr} {o : Obj}, s₁.heap.get? b = some o → H b = none → (hidT s₁.heap H).get? b = some o := fun e n => hidT_get e n
    have noA : ∀ {b : Addr} {o : Obj} {es : Array DictEntry} {ep : Nat}, s₁.heap.get? b = some o → o.data = .dict es ep → H b = none := fun {b o es ep} e d => by
      cases q : H b with
      | none => rfl
      | some u =>
        have e' : b = a := hA b (by rw [q]; simp)
        subst e'
        rw [ha] at e; cases e
        have d' : Data.seq vs.toArray _ = Data.dict es ep := d
        cases d'
    have nsK : ∀ {b : Addr} {m : Str → Option Value}, s₁.heap.Ns b m → (hidT s₁.heap H).Ns b m := fun {b m} ⟨o, es, ep, e, d, r⟩ => ⟨o, es, ep, base_of e (noA e d), d, r⟩
    have hKb : K.In (hidT s₁.heap H) := fun b o e => base_of (KX b o e) (by
      cases q : H b with
      | none => rfl
      | some u =>
        have e' : b = a := hA b (by rw [q]; simp)
        subst e'
        rw [hK (by rw [q]; simp)] at e; cases e)
    have hM : Mod K mg (hidT s₁.heap H) := ⟨hKb, nsK hns, ⟨mb, nsK hb, hbb⟩, let ⟨mc, h1, h2⟩ := hlim; ⟨mc, nsK h1, h2⟩⟩
    have e0 : Env0 P w K mg (hidT s₁.heap H) callerA [] s₁ H := ⟨rfl, hM, fun b o e => of_hidT e, Nat.le_of_eq (hidT_size _ _), trivial, fun b hb => absurd (show b ∈ ([] : List Addr) from hb) (by simp), hok, .of_eq hg⟩
    refine codeAny_mono ((F _ hKb (nsK hns)).run callerA [] s₁ H ⟨[.ref a], []⟩ [.ref a] [.ref a] _ _ hr e0 (hbind s₁ (.ref a)) (.cons rfl .nil) (hsp H hO hS)) fun r s' h => ?_
    cases r with
    | error e => exact (hCX H e s' h).elim
    | ok fl =>
      cases fl with
      | next => exact False.elim h
      | brk => exact False.elim h
      | cont => exact False.elim h
      | ret u =>
        obtain ⟨v, H', os, bare, un, hok', r', q⟩ := h
        have q' : v = .bl true := q
        subst q'
        obtain rfl : u = Value.bool true := r'
        refine ⟨rfl, OldK.of_keep fun b o e => ?_, os, bare⟩
        cases q : H b with
        | none => exact un.keep b o e q (by intro z; exact absurd (show b ∈ ([] : List Addr) from z) (by simp)) (by simp)
        | some u =>
          rcases hO b with z | ⟨ob, xs, z⟩
          · rw [q] at z; cases z
          · have z2 := un.frzs b ob _ z
            obtain ⟨e1, _⟩ := hok b _ z
            obtain ⟨e2, _⟩ := hok' b _ z2
            rw [e] at e1; cases e1
            exact e2
  cases hk : K.lookup a with
  | some o =>
    -- the script is one of the module's own objects
    have e := KX a o hk
    rw [ha] at e
    cases e
    refine core (fun _ => none) (fun _ => .inl rfl) (.inr ⟨_, vs.toArray, _, hk, rfl, rfl, rfl, by rw [List.size_toArray, lenV]; exact hl, by simpa using rv⟩) (fun b u z => by have z' : (none : Option HO) = some u := z; cases z') (fun b z => absurd rfl z) fun z => absurd rfl z
  | none =>
    refine core (fun b => if b = a then some (.frz { cls := .type "list", data := .seq vs.toArray } (.lst (ns.map V.int))) else none) (fun b => ?_) (.inl (.inr ⟨{ cls := .type "list", data := .seq vs.toArray }, if_pos rfl⟩)) (fun b u z => ?_) (fun b z => ?_) fun _ => hk
    · by_cases hb : b = a
      · exact .inr ⟨_, _, if_pos hb⟩
      · exact .inl (if_neg hb)
    · by_cases hb : b = a
      · have z' := (if_pos hb).symm.trans z
        cases z'
        subst hb
        exact ⟨ha, by rw [List.length_map]; exact hl, vs, _, rv, ha⟩
      · have z' := (if_neg hb).symm.trans z
        cases z'
    · by_cases hb : b = a
      · exact hb
      · exact absurd (if_neg hb) z
end L2

namespace L2
open PySem PySem.Spec PyProof.Rows

abbrev KOf {K : PySem.W.Frag} {h : Heap} (_ : K.In h) : PySem.W.Frag := K

/-- the goal that k_head leaves (case hc), from the law's promise. F gives the function object fd (K's own) once, then the promise over every base -/
theorem walk_of {l : PySem.W.OpenLaw} {n k : Nat} {q : Program} {loose : List Str} {XP : (Str → Option Value) → Heap → Prop} {YP : World → Heap → Prop} {d : DefRec} {K : Params → PySem.W.Frag} {CX : World → CXT} {sp : World → Sp} {x : Str}
    (hn : l.most = some n) (hn2 : n ≤ sizeLine) (hdf : d.params.defaults = []) (hr : Room k callerA)
    (hY : ∀ (w : World) (h : Heap), YP w h → (K w.params).In h)
    (F : ∀ (w : World) (mg : Str → Option Value) (fa : Addr) (h : Heap), (K w.params).In h → h.Ns mainGlobals mg → mg d.name = some (.ref fa) →
      ∃ fd : FuncData, (∀ (s : Shared) (u : Value), BindsTo s fd ⟨[u], []⟩ [(x, u)]) ∧
        ∀ base : Heap, (K w.params).In base → base.Ns mainGlobals mg → FnOk l.prog w (K w.params) mg base (CX w) k fa fd [x] (sp w))
    (hsp : ∀ (w : World) (H : Hp) (a : Addr) (ns : List Int), ns.length ≤ n → Only H → SqL (K w.params) H a (ns.map V.int) → sp w [.ref a] H (fun v _ => v = .bl true) fun _ _ _ => False)
    (hCX : ∀ (w : World) (H : Hp) (s : Shared) (e : Value) (s' : Shared), CX w [] H s (fun _ _ _ => False) e s' → False) :
    PySem.W.WalkO q loose XP YP l.row.toRowW d [] (fun f vs => PySem.call f vs) := by
  refine Att.attach_call hn hdf fun w s₀ s₁ mg mb fa o pm cd doc a vs ns G Y ho hd hcd hmg hobj hints hlen hg => ?_
  have KX := hY w _ Y
  obtain ⟨fd, hb, hF⟩ := F w mg fa _ KX G.T.g hmg
  exact law_call KX G.T.g G.T.b G.T.builtins G.T.nolimit hg hobj hints (Nat.le_trans hlen hn2) hr hF hb (fun H hO hS => hsp w H a ns hlen hO hS) fun H e s' => hCX w H s₁ e s'
/-- the same where the promise hangs on the written part alone: (sp := My.sp_law), no hole under a binder -/
theorem walk_ofK {l : PySem.W.OpenLaw} {n k : Nat} {q : Program} {loose : List Str} {XP : (Str → Option Value) → Heap → Prop} {YP : World → Heap → Prop} {d : DefRec} {K : Params → PySem.W.Frag} {CX : CXT} {sp : PySem.W.Frag → Sp} {x : Str}
    (hn : l.most = some n) (hn2 : n ≤ sizeLine) (hdf : d.params.defaults = []) (hr : Room k callerA)
    (hY : ∀ (w : World) (h : Heap), YP w h → (K w.params).In h)
    (F : ∀ (w : World) (mg : Str → Option Value) (fa : Addr) (h : Heap), (K w.params).In h → h.Ns mainGlobals mg → mg d.name = some (.ref fa) →
      ∃ fd : FuncData, (∀ (s : Shared) (u : Value), BindsTo s fd ⟨[u], []⟩ [(x, u)]) ∧
        ∀ base : Heap, (K w.params).In base → base.Ns mainGlobals mg → FnOk l.prog w (K w.params) mg base CX k fa fd [x] (sp (K w.params)))
    (hsp : ∀ (K : PySem.W.Frag) (H : Hp) (a : Addr) (ns : List Int), ns.length ≤ n → Only H → SqL K H a (ns.map V.int) → sp K [.ref a] H (fun v _ => v = .bl true) fun _ _ _ => False)
    (hCX : ∀ (H : Hp) (s : Shared) (e : Value) (s' : Shared), CX [] H s (fun _ _ _ => False) e s' → False) :
    PySem.W.WalkO q loose XP YP l.row.toRowW d [] (fun f vs => PySem.call f vs) :=
  walk_of (K := K) (CX := fun _ => CX) (sp := fun w => sp (K w.params)) hn hn2 hdf hr hY F (fun w H a ns h1 h2 h3 => hsp (K w.params) H a ns h1 h2 h3) fun _ H s e s' => hCX H s e s'
end L2

/- THE LAST THEOREM (shape; LID, My.* are yours):
   My.Adr: a structure of the addresses that your layer names (classes, functions); My.Txt K t: a structure (Prop) of the equations over K;
   My.txt_mk : {K} {implicit addresses ..} (e1 : nsIn K mainGlobals "law" = some (some (.ref f))) (e2 : K.lookup f = some ⟨oc, od, .func (fnOf "law" "law" params body scope dV kV doc pm an cdv ct), sl⟩) (e3 : codeIn K cdv "law" = true) .. : ∃ t, My.Txt K t

set_option maxRecDepth 100000 in
set_option maxHeartbeats 0 in
theorem PySem.Challenge.cw_LID_holds : PySem.Challenge.rw_LID.Holds := by
  w_on; o_law; k_head; (case hw => w_witness2)
  k_fill
  refine L2.walk_of (l := PySem.Challenge.rw_LID) (n := 63) (k := 40) (x := "script") (CX := fun w => ..) (sp := fun _ => My.sp_law) rfl (by decide) rfl ⟨rfl, by decide, by decide⟩ (fun w h Y => PySem.W.kIn_of Y) ?F ?S ?C
  case F =>
    intro w mg fa h KX G hmg
    have T : ∃ t, My.Txt (L2.KOf KX) t := by
      dsimp only [L2.KOf]                          -- K must stand as «<heap const> w.params» for k_is
      refine' My.txt_mk ?e1 ?e2 ?e3 ..
      (case e1 => PySem.W.k_is)                    -- in the order: a name -> its address -> its object -> its parts
      (case e2 => PySem.W.k_is)
      ..
    obtain ⟨t, T⟩ := T
    have e0 := hmg.symm.trans (PySem.W.mg_of KX G T.law)
    cases e0                                       -- fa is the law's own address
    exact ⟨_, fun s u => .of_eq rfl, fun base kb nb => My.law_fn T kb nb⟩     -- if «.of_eq rfl» comes too early: refine' ⟨_, ?b, fun base kb nb => My.law_fn T kb nb⟩; exact fun s u => .of_eq rfl
  case S => exact fun w H a ns hl hO hS => ..
  case C => exact ..
(the tactic k_is has no namespace: write k_is) -/

/-! SHORT WORDS over the layer: a def of the text, its body, what a loop and a test want. -/
namespace L2
open PySem PySem.Spec PyProof.Rows

/-! ### the text by places -/
/-- the j-th statement of a class's body -/
def inClass (s : Stmt) (j : Nat) : Stmt := match s with
  | .ClassDef _ _ _ body _ _ _ _ _ _ _ => body.getD j (.Pass ⟨0, 0, 0, 0⟩)
  | _ => .Pass ⟨0, 0, 0, 0⟩
def defArgs (s : Stmt) : Arguments := match s with
  | .FunctionDef _ a _ _ _ _ _ _ _ _ => a
  | _ => { posonlyargs := [], args := [], vararg := none, kwonlyargs := [], kw_defaults := [], kwarg := none, defaults := [] }
def defBody (s : Stmt) : List Stmt := match s with
  | .FunctionDef _ _ b _ _ _ _ _ _ _ => b
  | _ => []
def defScope (s : Stmt) : Scope := match s with
  | .FunctionDef _ _ _ _ _ _ sc _ _ _ => sc
  | _ => { kind := .function, names := [], isGenerator := false, isCoroutine := false }

/-! ### no exception leaves a def -/
abbrev CX0 : CXT := fun _ _ _ _ _ _ => False
abbrev E0 : XK := fun _ _ _ => False
theorem pass0 {X : Cx} : Passes CX0 X E0 := fun _ _ _ _ _ _ _ h => h.elim

/-! ### a def (or method) of the text as it stands behind the top -/
structure Fun (K : PySem.W.Frag) (x qual : Str) (st : Stmt) (f : Addr) (fd : FuncData) : Prop where
  ex : ∃ (oc : Value) (od : Option Addr) (kV doc pm : Value) (an : Option Addr) (cdv ct : Value) (osl : Array (Option Value)),
    fd = PySem.W.fnOf x qual (defArgs st) (defBody st) (defScope st) .none kV doc pm an cdv ct ∧ K.lookup f = some ⟨oc, od, .func fd, osl⟩ ∧ PySem.W.codeIn K cdv qual = true
  kp : PySem.W.keepIn K (.ref f) = true
section
variable {P : Program} {w : World} {K : PySem.W.Frag} {mg : Str → Option Value} {base : Heap}
/-- THE RULE for a def: its body as a term of rules, and the reading of that term -/
theorem Fun.ok {x qual : Str} {st : Stmt} {f : Addr} {fd : FuncData} {N ps : List Str} {k : Nat} {sp : Sp} (F : Fun K x qual st f fd) (S : FnScope N ps (defScope st)) (len : ∀ vs H Q E, sp vs H Q E → vs.length = ps.length)
    (hbody : ∀ (cdv : Value) (A : Around) (outer : List Env) (s : Shared) (H : Hp) (vs : List V) (Q : VK) (E : XK), Room k (A.deeper (envOfC qual (defScope st) s.heap.objs.size f cdv)) → sp vs H Q E →
      ∃ t, PSs (cxOf CX0 P w K mg base N qual (defScope st) f cdv A outer s H E).nox (defBody st) t ∧ t { nx := fun _ H' => Q .non H', rt := Q } (start N vs) H) : FnOk P w K mg base CX0 (k + 1) f fd ps sp := by
  obtain ⟨oc, od, kV, doc, pm, an, cdv, ct, osl, rfl, lk, hcd⟩ := F.ex
  refine fn_of lk hcd S len fun A outer s H vs Q E hr hsp => ?_
  obtain ⟨t, h, q⟩ := hbody cdv A outer s H vs Q E hr hsp
  exact ⟨t, h.nox, q⟩
/-- how its arguments bind (no defaults): h is «fun _ _ _ _ _ _ us hl => match us, hl with | [_, _], _ => rfl», one _ a parameter -/
theorem Fun.binds {x qual : Str} {st : Stmt} {f : Addr} {fd : FuncData} {ps : List Str} (F : Fun K x qual st f fd)
    (h : ∀ (kV doc pm : Value) (an : Option Addr) (cdv ct : Value) (us : List Value), us.length = ps.length → bindArgs (PySem.W.fnOf x qual (defArgs st) (defBody st) (defScope st) .none kV doc pm an cdv ct) ⟨us, []⟩ = pure (ps.zip us)) : Binds K fd ps [] := by
  obtain ⟨oc, od, kV, doc, pm, an, cdv, ct, osl, rfl, lk, hcd⟩ := F.ex
  exact .all (h kV doc pm an cdv ct)
theorem fun_mk {x qual : Str} {st : Stmt} {f : Addr} {oc : Value} {od an : Option Addr} {osl : Array (Option Value)} {kV doc pm cdv ct : Value} (l : K.lookup f = some ⟨oc, od, .func (PySem.W.fnOf x qual (defArgs st) (defBody st) (defScope st) .none kV doc pm an cdv ct), osl⟩)
    (c : PySem.W.codeIn K cdv qual = true) (k : PySem.W.keepIn K (.ref f) = true) : Fun K x qual st f (PySem.W.fnOf x qual (defArgs st) (defBody st) (defScope st) .none kV doc pm an cdv ct) := ⟨⟨oc, od, kV, doc, pm, an, cdv, ct, osl, rfl, l, c⟩, k⟩
end
theorem hu_of {A : Around} {k : Nat} (hr : Room k A) : A.units + 1 < cLine := Nat.lt_of_le_of_lt (Nat.add_le_add_left (by decide : 1 ≤ 64) _) hr.units
theorem small1000 {n : Nat} (h : n ≤ 1000) : n < sizeLine := Nat.lt_of_le_of_lt h (by decide)

/-! ### expressions in short: the name that stands in the i-th slot -/
section
variable {X : Cx}
theorem pv (i : Nat) {x : Str} {pos : Pos} (hN : X.N[i]? = some x := by rfl) (hv : Vis X.env.scope x := by first | exact Or.inl rfl | exact Or.inr (Or.inl rfl) | exact Or.inr (Or.inr rfl)) (hd : (x == ("__debug__" : Str)) = false := by decide)
    (hcd : (x == ("__classdict__" : Str)) = false := by decide) : PE X (.Name x pos) (tVar i) := pe_var hN hv hd hcd
/-- len of a dict -/
theorem call_lenD : CallR X (.builtin "len") (fun xs H Q => ∃ a kvs, xs = [V.ref a] ∧ H a = some (.dK kvs) ∧ Q (.int kvs.length) H) := by
  intro pins s σ H xs us Q I r h
  obtain ⟨a, kvs, rfl, ha, q⟩ := h
  obtain ⟨u, rfl, ru⟩ := vals1 r
  cases ru
  exact d_len I (.inl ha) fun t s' I' => ⟨.int kvs.length, H, I', ⟨t, rfl⟩, q⟩
end

/-! ### tests -/
theorem iteF {A B : Prop} (h : B) : if false = true then A else B := by
  rw [if_neg Bool.false_ne_true]
  exact h
theorem iteT {A B : Prop} (h : A) : if true = true then A else B := by
  rw [if_pos rfl]
  exact h
theorem ite2 {c A B : Prop} [Decidable c] (h1 : c → A) (h2 : ¬ c → B) : if c then A else B := by
  by_cases h : c
  · rw [if_pos h]
    exact h1 h
  · rw [if_neg h]
    exact h2 h
theorem iteNS {c A B : Prop} [Decidable c] (hc : c) (h : B) : if (!decide c) = true then A else B := by
  rw [decide_eq_true hc]
  exact iteF h

/-! ### heaps -/
/-- all that was tracked is as it was -/
def Same (H H' : Hp) : Prop := ∀ b o, H b = some o → H' b = some o
theorem Same.refl (H : Hp) : Same H H := fun _ _ h => h
theorem Same.trans {H H1 H2 : Hp} (a : Same H H1) (b : Same H1 H2) : Same H H2 := fun c o h => b c o (a c o h)
theorem Same.free {H H' : Hp} (e : Same H H') {l : Addr} (h : H' l = Option.none) : H l = Option.none := by
  cases q : H l with
  | none => rfl
  | some o =>
    rw [e l o q] at h
    cases h
theorem Same.seq {K : PySem.W.Frag} {H H' : Hp} {a : Addr} {xs : List V} (e : Same H H') (h : SqL K H a xs) : SqL K H' a xs := by
  rcases h with (h | ⟨o, h⟩) | h
  · exact .inl (.inl (e _ _ h))
  · exact .inl (.inr ⟨o, e _ _ h⟩)
  · exact .inr h

/-! ### a dict's pairs: keys that differ -/
section
variable {κ : Type} [DecidableEq κ]
theorem valV_not {kvs : List (κ × V)} {k : κ} (h : valV kvs k = none) : ¬ k ∈ kvs.map (·.1) := by
  intro m
  obtain ⟨p, hp, e⟩ := List.mem_map.mp m
  have q : (kvs.any fun kv => decide (kv.1 = k)) = true := List.any_eq_true.mpr ⟨p, hp, decide_eq_true e⟩
  rw [valV_any, h] at q
  exact absurd q (by simp)
theorem valV_in {kvs : List (κ × V)} {k : κ} {v : V} (h : valV kvs k = some v) : k ∈ kvs.map (·.1) := by
  have q : (kvs.any fun kv => decide (kv.1 = k)) = true := by
    rw [valV_any, h]
    all_goals rfl
  obtain ⟨p, hp, e⟩ := List.any_eq_true.mp q
  exact List.mem_map.mpr ⟨p, hp, of_decide_eq_true e⟩
theorem nd_snoc : ∀ {l : List κ} {k : κ}, l.Nodup → ¬ k ∈ l → (l ++ [k]).Nodup
  | [], k, _, _ => by simp
  | a :: r, k, h, hk => by
    obtain ⟨h1, h2⟩ := List.nodup_cons.mp h
    show (a :: (r ++ [k])).Nodup
    refine List.nodup_cons.mpr ⟨fun m => ?_, nd_snoc h2 fun m => hk (List.mem_cons.mpr (Or.inr m))⟩
    rcases List.mem_append.mp m with q | q
    · exact h1 q
    · exact hk (List.mem_cons.mpr (Or.inl (List.mem_singleton.mp q).symm))
theorem nd_putK {kvs : List (κ × V)} {k : κ} (v : V) (hn : (kvs.map (·.1)).Nodup) (h : valV kvs k = none) : ((putK kvs k v).map (·.1)).Nodup := by
  rw [putK_new v h, List.map_append]
  exact nd_snoc hn (valV_not h)
theorem dropK_pos {p : κ × V} {r : List (κ × V)} {k : κ} (e : p.1 = k) : dropK (p :: r) k = dropK r k := by
  unfold dropK
  rw [List.filter_cons, if_neg (by simp [e])]
theorem dropK_neg {p : κ × V} {r : List (κ × V)} {k : κ} (e : ¬ p.1 = k) : dropK (p :: r) k = p :: dropK r k := by
  unfold dropK
  rw [List.filter_cons, if_pos (by simp [e])]
theorem dropK_no : ∀ {kvs : List (κ × V)} {k : κ}, ¬ k ∈ kvs.map (·.1) → dropK kvs k = kvs
  | [], _, _ => rfl
  | p :: r, k, h => by
    have h' : ¬ k ∈ r.map (·.1) := fun m => by
      obtain ⟨q, hq, e⟩ := List.mem_map.mp m
      exact h (List.mem_map.mpr ⟨q, List.mem_cons.mpr (Or.inr hq), e⟩)
    rw [dropK_neg fun e => h (List.mem_map.mpr ⟨p, List.mem_cons.mpr (Or.inl rfl), e⟩), dropK_no h']
theorem dropK_mem {kvs : List (κ × V)} {k : κ} {p : κ × V} (h : p ∈ dropK kvs k) : p ∈ kvs := (List.mem_filter.mp h).1
theorem nd_dropK : ∀ {kvs : List (κ × V)} {k : κ}, (kvs.map (·.1)).Nodup → ((dropK kvs k).map (·.1)).Nodup
  | [], _, _ => List.nodup_nil
  | p :: r, k, h => by
    have h : (p.1 :: r.map (·.1)).Nodup := h
    obtain ⟨h1, h2⟩ := List.nodup_cons.mp h
    by_cases e : p.1 = k
    · rw [dropK_pos e]
      exact nd_dropK h2
    · rw [dropK_neg e]
      show (p.1 :: (dropK r k).map (·.1)).Nodup
      refine List.nodup_cons.mpr ⟨fun m => h1 ?_, nd_dropK h2⟩
      obtain ⟨q, hq, eq⟩ := List.mem_map.mp m
      exact List.mem_map.mpr ⟨q, dropK_mem hq, eq⟩
theorem dropK_len : ∀ {kvs : List (κ × V)} {k : κ}, (kvs.map (·.1)).Nodup → k ∈ kvs.map (·.1) → (dropK kvs k).length + 1 = kvs.length
  | [], _, _, m => by simp at m
  | p :: r, k, h, m => by
    have h : (p.1 :: r.map (·.1)).Nodup := h
    have m : k = p.1 ∨ k ∈ r.map (·.1) := List.mem_cons.mp m
    obtain ⟨h1, h2⟩ := List.nodup_cons.mp h
    by_cases e : p.1 = k
    · subst e
      rw [dropK_pos rfl, dropK_no h1]
      all_goals rfl
    · have m' : k ∈ r.map (·.1) := m.resolve_left fun z => e z.symm
      have q := dropK_len h2 m'
      rw [dropK_neg e, List.length_cons, List.length_cons]
      omega
end
/-! ### lists -/
theorem at_of {xs : List V} {z : Int} {j : Nat} {v : V} (e : z = (j : Int)) (h : xs[j]? = some v) : atI xs z = some v := by
  rw [e]
  exact atI_nat h
theorem nd_ix {α : Type} {l : List α} (hN : l.Nodup) {i j : Nat} {x : α} (a : l[i]? = some x) (b : l[j]? = some x) : i = j := by
  obtain ⟨h1, e1⟩ := List.getElem?_eq_some_iff.mp a
  obtain ⟨h2, e2⟩ := List.getElem?_eq_some_iff.mp b
  exact (List.getElem_inj hN).mp (e1.trans e2.symm)
theorem sum_set : ∀ {l : List Int} {j : Nat} {z y : Int}, l[j]? = some z → (l.set j y).sum = l.sum - z + y
  | [], j, z, y, h => by simp at h
  | a :: r, 0, z, y, h => by
    have e : a = z := Option.some.inj h
    subst e
    show (y :: r).sum = (a :: r).sum - a + y
    rw [List.sum_cons, List.sum_cons]
    omega
  | a :: r, j + 1, z, y, h => by
    have ih := sum_set (l := r) (j := j) (z := z) (y := y) h
    show (a :: r.set j y).sum = (a :: r).sum - z + y
    rw [List.sum_cons, List.sum_cons, ih]
    omega
theorem sum_take : ∀ {l : List Int} {i : Nat} {z : Int}, l[i]? = some z → (l.take (i + 1)).sum = (l.take i).sum + z
  | [], i, z, h => by simp at h
  | a :: r, 0, z, h => by
    have e : a = z := Option.some.inj h
    subst e
    show ([a] : List Int).sum = ([] : List Int).sum + a
    rw [List.sum_cons]
    exact Int.add_comm _ _
  | a :: r, i + 1, z, h => by
    have ih := sum_take (l := r) (i := i) (z := z) h
    show (a :: r.take (i + 1)).sum = (a :: r.take i).sum + z
    rw [List.sum_cons, List.sum_cons, ih]
    omega
/-- a new instance and its __init__ leave all that was tracked as it was -/
theorem Same.made {H H1 : Hp} {x dx C : Addr} (nx : H x = Option.none) (nd : H dx = Option.none) (k : ∀ b o, (upd (upd H dx (.own x)) x (.ins C dx [])) b = some o → b ≠ x → H1 b = some o) : Same H H1 := fun b o e =>
  k b o (by rw [upd_ne (ne_of_none e nx), upd_ne (ne_of_none e nd)]; exact e) (ne_of_none e nx)
end L2

section
set_option Elab.async false
set_option linter.all false
set_option maxRecDepth 100000
namespace EV
open PySem PySem.Spec PyProof.Rows L2

/-! ### own syntax -/
inductive B2 where
  | add | sub | mul | fdiv | mod | pow
  deriving DecidableEq
def B2.py : B2 → Operator
  | .add => .Add | .sub => .Sub | .mul => .Mult | .fdiv => .FloorDiv | .mod => .Mod | .pow => .Pow
inductive C2 where
  | lt | le | gt | ge | eq | ne | isN | notN | isin | notin
  deriving DecidableEq
def C2.py : C2 → CmpOp
  | .lt => .Lt | .le => .LtE | .gt => .Gt | .ge => .GtE | .eq => .Eq | .ne => .NotEq | .isN => .Is | .notN => .IsNot | .isin => .In | .notin => .NotIn
inductive Ty where
  | int | str | bool | list | tuple
  deriving DecidableEq
def Ty.nm : Ty → String
  | .int => "int" | .str => "str" | .bool => "bool" | .list => "list" | .tuple => "tuple"
inductive Bl where
  | len | max | min | abs | isi | all | any
  deriving DecidableEq
def Bl.nm : Bl → String
  | .len => "len" | .max => "max" | .min => "min" | .abs => "abs" | .isi => "isinstance" | .all => "all" | .any => "any"
/-- a call of a builtin type -/
inductive Bt where
  | int | str | list
  deriving DecidableEq
def Bt.nm : Bt → String
  | .int => "int" | .str => "str" | .list => "list"
/-- a text's method with one argument -/
inductive M1 where
  | find | startswith | endswith | index | join | split
  deriving DecidableEq
def M1.nm : M1 → String
  | .find => "find" | .startswith => "startswith" | .endswith => "endswith" | .index => "index" | .join => "join" | .split => "split"

inductive Ik where
  | lst | tup | str | rng1 | rng2 | enum | zip | zipS
  deriving DecidableEq
mutual
inductive Ex where
  | var (i : Nat)
  | cst (v : V)
  | glb (k : Nat)
  | ty (t : Ty)
  | bin (op : B2) (a b : Ex)
  | neg (a : Ex)
  | cmp (op : C2) (a b : Ex)
  | chn (o p : C2) (a b c : Ex)
  | and (es : Exs)
  | or (es : Exs)
  | not (a : Ex)
  | ite (c a b : Ex)
  | idx (a b : Ex)
  | slc (a : Ex) (lo hi : Exs)
  | call (k : Nat) (es : Exs)
  | blt (b : Bl) (es : Exs)
  | btc (b : Bt) (a : Ex)
  | m1 (m : M1) (o a : Ex)
  | lst (es : Exs)
  | tup (es : Exs)
  | isi (a : Ex) (t : Ty)
  | lc (i : Nat) (k : Ik) (src elt : Ex)
  | dct (kvs : List (Key × V))
  | dgt (o k : Ex)
  | dgt2 (o k d : Ex)
inductive Exs where
  | nil
  | cons (a : Ex) (r : Exs)
end

/-- what is known of the text around: the names' slots, the defs with their promises, the module's constants, the builtin names that nobody shadows -/
structure Gm where
  N : List Str
  fn : List (Str × Sp)
  gl : List (Str × V)
  bl : List Str

/-! ### readings -/
def rdB : B2 → R2
  | .add, x, y, H, Q => match x, y with
    | .int i, .int j => Q (.int (i + j)) H
    | .str a, .str b => a.length + b.length ≤ sizeLine ∧ Q (.str (a ++ b)) H
    | .ref a, .ref b => ∃ xs ys, H a = some (.lst xs) ∧ H b = some (.lst ys) ∧ xs.length + ys.length ≤ sizeLine ∧ ∀ p, H p = none → Q (.ref p) (upd H p (.lst (xs ++ ys)))
    | _, _ => False
  | .sub, x, y, H, Q => match x, y with
    | .int i, .int j => Q (.int (i - j)) H
    | _, _ => False
  | .mul, x, y, H, Q => match x, y with
    | .int i, .int j => (i.natAbs < 2 ^ 1000 ∧ j.natAbs < 2 ^ 1000 ∨ CMul i j) ∧ Q (.int (i * j)) H
    | .str a, .int j => MulOk a j ∧ Q (.str (Txt.mul a j)) H
    | .ref a, .int j => ∃ xs, H a = some (.lst xs) ∧ (-(2 ^ 63) ≤ j ∧ j < 2 ^ 63) ∧ xs.length * j.toNat ≤ sizeLine ∧ ∀ p, H p = none → Q (.ref p) (upd H p (.lst (List.replicate j.toNat xs).flatten))
    | _, _ => False
  | .fdiv, x, y, H, Q => match x, y with
    | .int i, .int j => CDiv i j ∧ Q (.int (i / j)) H
    | _, _ => False
  | .mod, x, y, H, Q => match x, y with
    | .int i, .int j => 0 < j ∧ Q (.int (i % j)) H
    | _, _ => False
  | .pow, x, y, H, Q => match x, y with
    | .int i, .int j => CPow i j ∧ Q (.int (i ^ j.toNat)) H
    | _, _ => False
def rdAg : B2 → R2
  | .add, x, y, H, Q => match x, y with
    | .int i, .int j => Q (.int (i + j)) H
    | .str a, .str b => a.length + b.length ≤ sizeLine ∧ Q (.str (a ++ b)) H
    | _, _ => False
  | .sub, x, y, H, Q => match x, y with
    | .int i, .int j => Q (.int (i - j)) H
    | _, _ => False
  | _, _, _, _, _ => False
theorem OpR.imp {X : Cx} {f : Value → Value → Sem Value} {r r' : R2} (h : OpR X f r) (i : ∀ x y H Q, r' x y H Q → r x y H Q) : OpR X f r' :=
  fun pins s σ H x y v u Q I rx ry q => h pins s σ H x y v u Q I rx ry (i _ _ _ _ q)


/-- == of scalars, as a bool -/
def eqS : V → V → Option Bool
  | .int i, .int j => some (decide (i = j))
  | .str a, .str b => some (decide (a = b))
  | .bl a, .bl b => some (decide (a = b))
  | .non, .non => some true
  | .non, .int _ => some false | .int _, .non => some false
  | .non, .bl _ => some false | .bl _, .non => some false
  | .non, .str _ => some false | .str _, .non => some false
  | .int _, .str _ => some false | .str _, .int _ => some false
  | .bl _, .str _ => some false | .str _, .bl _ => some false
  | _, _ => none
theorem eqS_ok : ∀ {x y : V} {b : Bool}, eqS x y = some b → scal x y = true ∧ decide (x = y) = b := by
  intro x y b h
  cases x <;> cases y <;> first
    | (simp only [eqS, reduceCtorEq] at h; done)
    | (refine ⟨rfl, ?_⟩
       have e := Option.some.inj h
       rw [← e]
       first
         | rfl
         | (rw [Bool.eq_iff_iff]; simp))
def isNon : V → Bool
  | .non => true
  | _ => false
theorem isNon_eq (x : V) : isNon x = decide (x = .non) := by cases x <;> first | rfl | simp [isNon]

def rdC (K : PySem.W.Frag) : C2 → R2
  | .lt, x, y, H, Q => match x, y with
    | .int i, .int j => Q (.bl (decide (i < j))) H
    | _, _ => False
  | .le, x, y, H, Q => match x, y with
    | .int i, .int j => Q (.bl (decide (i ≤ j))) H
    | _, _ => False
  | .gt, x, y, H, Q => match x, y with
    | .int i, .int j => Q (.bl (decide (j < i))) H
    | _, _ => False
  | .ge, x, y, H, Q => match x, y with
    | .int i, .int j => Q (.bl (decide (j ≤ i))) H
    | _, _ => False
  | .eq, x, y, H, Q => match eqS x y with
    | some b => Q (.bl b) H
    | none => rEqD K x y H Q
  | .ne, x, y, H, Q => match eqS x y with
    | some b => Q (.bl (!b)) H
    | none => rNeD K x y H Q
  | .isN, x, y, H, Q => match y with
    | .non => Q (.bl (isNon x)) H
    | _ => False
  | .notN, x, y, H, Q => match y with
    | .non => Q (.bl (!isNon x)) H
    | _ => False
  | .isin, x, y, H, Q => match y with
    | .str z => (match x with
      | .str a => (match a.cps.toList with
        | [c] => Q (.bl (decide (c ∈ z.cps.toList))) H
        | _ => False)
      | _ => False)
    | .ref p => ∃ xs, (SqL K H p xs ∨ SqT K H p xs) ∧ flatV x = true ∧ xs.all flatV = true ∧ Q (.bl (inV x xs)) H
    | _ => False
  | .notin, x, y, H, Q => match y with
    | .str z => (match x with
      | .str a => (match a.cps.toList with
        | [c] => Q (.bl (!decide (c ∈ z.cps.toList))) H
        | _ => False)
      | _ => False)
    | .ref p => ∃ xs, (SqL K H p xs ∨ SqT K H p xs) ∧ flatV x = true ∧ xs.all flatV = true ∧ Q (.bl (!inV x xs)) H
    | _ => False
def rdI (K : PySem.W.Frag) : R2 := fun x y H Q => match x, y with
  | .str z, .int i => z.length ≤ sizeLine ∧ ∃ c, atI z.cps.toList i = some c ∧ Q (.str ⟨#[c]⟩) H
  | .ref p, .int i => ∃ xs v, (SqL K H p xs ∨ SqT K H p xs) ∧ atI xs i = some v ∧ Q v H
  | _, _ => False
/-- isinstance of scalars -/
def isiV : V → String → Option Bool
  | .int _, "int" => some true | .int _, "bool" => some false | .int _, "str" => some false | .int _, "list" => some false | .int _, "tuple" => some false
  | .str _, "int" => some false | .str _, "bool" => some false | .str _, "str" => some true | .str _, "list" => some false | .str _, "tuple" => some false
  | .bl _, "int" => some true | .bl _, "bool" => some true | .bl _, "str" => some false | .bl _, "list" => some false | .bl _, "tuple" => some false
  | .non, "int" => some false | .non, "bool" => some false | .non, "str" => some false | .non, "list" => some false | .non, "tuple" => some false
  | _, _ => none
def tyIn (t : String) : Bool := t == "int" || t == "bool" || t == "str" || t == "list" || t == "tuple"
def rdBl (K : PySem.W.Frag) : Bl → List V → Hp → VK → Prop
  | .len, vs, H, Q => match vs with
    | [.str z] => z.length ≤ sizeLine ∧ Q (.int z.length) H
    | [.ref p] => ∃ xs, (SqL K H p xs ∨ SqT K H p xs) ∧ Q (.int xs.length) H
    | _ => False
  | .max, vs, H, Q => match vs with
    | [.int i, .int j] => Q (.int (if j > i then j else i)) H
    | _ => False
  | .min, vs, H, Q => match vs with
    | [.int i, .int j] => Q (.int (if j < i then j else i)) H
    | _ => False
  | .abs, vs, H, Q => match vs with
    | [.int i] => Q (.int (if i < 0 then -i else i)) H
    | _ => False
  | .isi, vs, H, Q => match vs with
    | [x, .ty t] => (match isiV x t with
      | some b => Q (.bl b) H
      | none => (match x with
        | .ref p => tyIn t = true ∧ ((∃ xs, SqL K H p xs ∧ Q (.bl (t == "list")) H) ∨ (∃ xs, SqT K H p xs ∧ Q (.bl (t == "tuple")) H))
        | _ => False))
    | _ => False
  | .all, vs, H, Q => rAll K vs H Q
  | .any, vs, H, Q => rAny K vs H Q
def rdBt (K : PySem.W.Frag) : Bt → V → Hp → VK → Prop
  | .int, x, H, Q => match x with
    | .str a => ∃ n, PySem.intText? a = some n ∧ a.length ≤ 640 ∧ Q (.int n) H
    | _ => False
  | .str, x, H, Q => match x with
    | .int i => i.natAbs.log2 < 1920 ∧ Q (.str (toString i)) H
    | _ => False
  | .list, x, H, Q => match x with
    | .ref p => ∃ ys, (SqL K H p ys ∨ SqT K H p ys) ∧ ∀ l, H l = none → Q (.ref l) (upd H l (.lst ys))
    | _ => False
def rdM1 (K : PySem.W.Frag) : M1 → V → V → Hp → VK → Prop
  | .find, x, y, H, Q => match x, y with
    | .str a, .str b => Q (.int (Txt.find a b)) H
    | _, _ => False
  | .startswith, x, y, H, Q => match x, y with
    | .str a, .str b => Q (.bl (Txt.startswith a b)) H
    | _, _ => False
  | .endswith, x, y, H, Q => match x, y with
    | .str a, .str b => Q (.bl (Txt.endswith a b)) H
    | _, _ => False
  | .index, x, y, H, Q => match x, y with
    | .str a, .str b => 0 ≤ Txt.find a b ∧ Q (.int (Txt.find a b)) H
    | _, _ => False
  | .join, x, y, H, Q => match x, y with
    | .str a, .ref p => ∃ ys : List Str, (SqL K H p (ys.map V.str) ∨ SqT K H p (ys.map V.str)) ∧ (ys.map (·.length)).sum + ys.length * a.length ≤ 16777216 ∧ Q (.str (Txt.join a ys)) H
    | _, _ => False
  | .split, x, y, H, Q => match x, y with
    | .str a, .str b => (b.length == 0) = false ∧ a.length + 2 ≤ sizeLine ∧ ∀ p, H p = none → Q (.ref p) (upd H p (.lst ((Txt.split a b).map V.str)))
    | _, _ => False
def rdSl (K : PySem.W.Frag) (x : V) (lo hi : Option Int) (H : Hp) (Q : VK) : Prop := match x with
  | .str z => z.length ≤ sizeLine ∧ Q (.str (cutS z lo hi)) H
  | .ref p => ∃ xs, SqL K H p xs ∧ ∀ q, H q = none → Q (.ref q) (upd H q (.lst (cutV xs lo hi)))
  | _ => False
/-- a test's truth -/
def rdTru (K : PySem.W.Frag) (x : V) (H : Hp) (Q : Bool → Hp → Prop) : Prop := match x with
  | .bl k => Q k H
  | .int i => Q (i != 0) H
  | .non => Q false H
  | .str y => y.length ≤ sizeLine ∧ Q ((y.length : Int) != 0) H
  | .ref p => ∃ k, TruV K (.ref p) H k ∧ Q k H
  | _ => False
def rdBo (x : V) (H : Hp) (Q : Bool → Hp → Prop) : Prop := match x with
  | .bl k => Q k H
  | _ => False

def signsV (x : Str) : List V := x.cps.toList.map fun c => V.str ⟨#[c]⟩
def rngV (lo : Int) (n : Nat) : List V := (List.range n).map fun (i : Nat) => V.int (lo + i)
def tstX (K : PySem.W.Frag) : Ex → V → Hp → (Bool → Hp → Prop) → Prop
  | .and _ => rdBo
  | .or _ => rdBo
  | .chn _ _ _ _ _ => rdBo
  | _ => rdTru K
def Ty.isL : Ty → Bool
  | .list => true
  | _ => false
def Ty.isT : Ty → Bool
  | .tuple => true
  | _ => false
/-- isinstance(x, t) -/
def rdIsi (K : PySem.W.Frag) (x : V) (t : Ty) (H : Hp) (Q : VK) : Prop := match x with
  | .int _ => Q (.bl (match t with | .int => true | _ => false)) H
  | .bl _ => Q (.bl (match t with | .int => true | .bool => true | _ => false)) H
  | .str _ => Q (.bl (match t with | .str => true | _ => false)) H
  | .non => Q (.bl false) H
  | .ref p => (∃ xs, SqL K H p xs ∧ Q (.bl t.isL) H) ∨ (∃ xs, SqT K H p xs ∧ Q (.bl t.isT) H) ∨ (∃ kvs, H p = some (.dK kvs) ∧ Q (.bl false) H)
  | _ => False
def keyOf : V → Option Key
  | .int i => some (.inl i)
  | .str x => some (.inr x)
  | _ => none
/-- what a comprehension walks: a list that stands still, a tuple, a text, a range -/
def lcSrc (K : PySem.W.Frag) (k : Ik) (v : V) (H : Hp) (R : (Hp → Prop) → List V → Prop) : Prop := match k, v with
  | .lst, .ref a => ∃ xs, SqL K H a xs ∧ R (fun H => SqL K H a xs) xs
  | .tup, .ref a => ∃ xs, SqT K H a xs ∧ R (fun H => SqT K H a xs) xs
  | .str, .str x => R (fun _ => True) (signsV x)
  | .rng1, .int n => (-(2 ^ 62) ≤ n ∧ n < 2 ^ 62) ∧ R (fun _ => True) (rngV 0 n.toNat)
  | _, _ => False
/-- the turns of a comprehension whose list stands at D -/
def lcL (chk : Hp → Prop) (te : TE) (σ : L2.St) (i : Nat) (D : Addr) : List V → List V → Hp → (Hp → Prop) → Prop
  | [], acc, H, Q => chk H ∧ H D = some (.lst acc) ∧ Q H
  | x :: r, acc, H, Q => chk H ∧ te (σ.set i (some x)) H fun y H1 => H1 D = some (.lst acc) ∧ acc.length < sizeLine ∧ lcL chk te σ i D r (acc ++ [y]) (upd H1 D (.lst (acc ++ [y]))) Q
mutual
def rdE (Γ : Gm) (K : PySem.W.Frag) : Ex → TE
  | .var i => fun σ H Q => match σ[i]? with
    | some (some v) => Q v H
    | _ => False
  | .cst v => fun _ H Q => Q v H
  | .glb k => fun _ H Q => match Γ.gl[k]? with
    | some g => Q g.2 H
    | none => False
  | .ty t => fun _ H Q => Q (.ty t.nm) H
  | .bin op a b => fun σ H Q => rdE Γ K a σ H fun x H1 => rdE Γ K b σ H1 fun y H2 => rdB op x y H2 Q
  | .neg a => fun σ H Q => rdE Γ K a σ H fun x H1 => match x with
    | .int i => Q (.int (-i)) H1
    | _ => False
  | .cmp op a b => fun σ H Q => rdE Γ K a σ H fun x H1 => rdE Γ K b σ H1 fun y H2 => rdC K op x y H2 Q
  | .chn o p a b c => fun σ H Q => rdE Γ K a σ H fun x H1 => rdE Γ K b σ H1 fun y H2 => rdC K o x y H2 fun z H3 => rdBo z H3 fun k H4 =>
      if k = true then rdE Γ K c σ H4 fun w H5 => rdC K p y w H5 Q else Q (.bl false) H4
  | .and es => rdAnd Γ K es
  | .or es => rdOr Γ K es
  | .not a => fun σ H Q => rdE Γ K a σ H fun x H1 => rdBo x H1 fun c H2 => Q (.bl (!c)) H2
  | .ite c a b => fun σ H Q => rdE Γ K c σ H fun x H1 => tstX K c x H1 fun k H2 => if k = true then rdE Γ K a σ H2 Q else rdE Γ K b σ H2 Q
  | .idx a b => fun σ H Q => rdE Γ K a σ H fun x H1 => rdE Γ K b σ H1 fun y H2 => rdI K x y H2 Q
  | .slc a lo hi => fun σ H Q => rdE Γ K a σ H fun x H1 => rdO Γ K lo σ H1 fun l H2 => rdO Γ K hi σ H2 fun h H3 => rdSl K x l h H3 Q
  | .call k es => fun σ H Q => rdA Γ K es σ H fun vs H1 => match Γ.fn[k]? with
    | some f => f.2 vs H1 Q E0
    | none => False
  | .blt b es => fun σ H Q => rdA Γ K es σ H fun vs H1 => rdBl K b vs H1 Q
  | .btc b a => fun σ H Q => rdE Γ K a σ H fun x H1 => rdBt K b x H1 Q
  | .m1 m o a => fun σ H Q => rdE Γ K o σ H fun x H1 => match x with
    | .str z => rdE Γ K a σ H1 fun y H2 => rdM1 K m (.str z) y H2 Q
    | _ => False
  | .lst es => fun σ H Q => rdA Γ K es σ H fun xs H1 => xs.length ≤ sizeLine ∧ ∀ p, H1 p = none → Q (.ref p) (upd H1 p (.lst xs))
  | .tup es => fun σ H Q => rdA Γ K es σ H fun xs H1 => xs.length ≤ sizeLine ∧ ∀ p, H1 p = none → Q (.ref p) (upd H1 p (.tup xs))
  | .isi a t => fun σ H Q => rdE Γ K a σ H fun x H1 => rdIsi K x t H1 Q
  | .lc i k src elt => fun σ H Q => rdE Γ K src σ H fun v H1 => lcSrc K k v H1 fun chk xs => ∀ D, H1 D = none → lcL chk (rdE Γ K elt) (σ.set i none) i D xs [] (upd H1 D (.lst [])) (Q (.ref D))
  | .dct kvs => fun _ H Q => ∀ p, H p = none → Q (.ref p) (upd H p (.dK kvs))
  | .dgt o k => fun σ H Q => rdE Γ K o σ H fun x H1 => rdE Γ K k σ H1 fun y H2 => match x, keyOf y with
    | .ref p, some c => ∃ kvs v, H2 p = some (.dK kvs) ∧ valV kvs c = some v ∧ Q v H2
    | _, _ => False
  | .dgt2 o k d => fun σ H Q => rdE Γ K o σ H fun x H1 => match x with
    | .ref p => (∃ kvs, H1 p = some (.dK kvs)) ∧ rdE Γ K k σ H1 fun y H2 => rdE Γ K d σ H2 fun z H3 => (match keyOf y with
      | some c => ∃ kvs, H3 p = some (.dK kvs) ∧ Q ((valV kvs c).getD z) H3
      | none => False)
    | _ => False
def rdA (Γ : Gm) (K : PySem.W.Frag) : Exs → TA
  | .nil => fun _ H Q => Q [] H
  | .cons a r => fun σ H Q => rdE Γ K a σ H fun x H1 => rdA Γ K r σ H1 fun xs H2 => Q (x :: xs) H2
def rdAnd (Γ : Gm) (K : PySem.W.Frag) : Exs → TE
  | .nil => fun _ _ _ => False
  | .cons a .nil => rdE Γ K a
  | .cons a (.cons b r) => fun σ H Q => rdE Γ K a σ H fun x H1 => rdBo x H1 fun c H2 => if c = true then rdAnd Γ K (.cons b r) σ H2 Q else Q (.bl false) H2
def rdOr (Γ : Gm) (K : PySem.W.Frag) : Exs → TE
  | .nil => fun _ _ _ => False
  | .cons a .nil => rdE Γ K a
  | .cons a (.cons b r) => fun σ H Q => rdE Γ K a σ H fun x H1 => rdBo x H1 fun c H2 => if c = true then Q (.bl true) H2 else rdOr Γ K (.cons b r) σ H2 Q
/-- a slice's part -/
def rdO (Γ : Gm) (K : PySem.W.Frag) : Exs → TO
  | .nil => fun _ H Q => Q none H
  | .cons a _ => fun σ H Q => rdE Γ K a σ H fun x H1 => match x with
    | .int i => Q (some i) H1
    | _ => False
end

mutual
def rdT (Γ : Gm) (K : PySem.W.Frag) : Ex → TT
  | .and es => rdTA Γ K es
  | .or es => rdTO Γ K es
  | .not a => fun σ H Q => rdT Γ K a σ H fun c H1 => Q (!c) H1
  | .ite _ _ _ => fun _ _ _ => False
  | .cmp op a b => fun σ H Q => rdE Γ K (.cmp op a b) σ H fun x H1 => rdBo x H1 Q
  | .chn o p a b c => fun σ H Q => rdE Γ K (.chn o p a b c) σ H fun x H1 => rdBo x H1 Q
  | e => fun σ H Q => rdE Γ K e σ H fun x H1 => rdTru K x H1 Q
def rdTA (Γ : Gm) (K : PySem.W.Frag) : Exs → TT
  | .nil => fun _ _ _ => False
  | .cons a .nil => rdT Γ K a
  | .cons a (.cons b r) => fun σ H Q => rdT Γ K a σ H fun c H1 => if c = true then rdTA Γ K (.cons b r) σ H1 Q else Q false H1
def rdTO (Γ : Gm) (K : PySem.W.Frag) : Exs → TT
  | .nil => fun _ _ _ => False
  | .cons a .nil => rdT Γ K a
  | .cons a (.cons b r) => fun σ H Q => rdT Γ K a σ H fun c H1 => if c = true then Q true H1 else rdTO Γ K (.cons b r) σ H1 Q
end

inductive Tg where
  | nm (i : Nat)
  | tup (is : List Nat)
mutual
inductive Sx where
  | pass | brk | cont | nev | retN
  | expr (e : Ex)
  | ret (e : Ex)
  | asg (g : Tg) (e : Ex)
  | par2 (i j : Nat) (a b : Ex)
  | par3 (i j k : Nat) (a b c : Ex)
  | dvm (i j : Nat) (a b : Ex)
  | aug (i : Nat) (op : B2) (e : Ex)
  | ite (c : Ex) (t f : Sxs)
  | whl (c : Ex) (b : Sxs)
  | for_ (g : Tg) (k : Ik) (src : Exs) (b : Sxs)
  | app (o a : Ex)
  | dput (o k v : Ex)
  | setLc (j : Nat) (i : Nat) (k : Ik) (src elt : Ex)
inductive Sxs where
  | nil
  | cons (s : Sx) (r : Sxs)
end
def setAll : List Nat → List V → L2.St → Option L2.St
  | [], [], σ => some σ
  | i :: is, v :: vs, σ => setAll is vs (σ.set i (some v))
  | _, _, _ => none
def rdG (K : PySem.W.Frag) : Tg → TG
  | .nm i => fun v σ H Q => Q (σ.set i (some v)) H
  | .tup is => fun v σ H Q => match v with
    | .ref a => ∃ xs, SqT K H a xs ∧ (match setAll is xs σ with
      | some σ' => Q σ' H
      | none => False)
    | _ => False
def whlN (c : TT) (tb : TS) : Nat → TS
  | 0 => fun _ _ _ => False
  | n + 1 => fun D σ H => c σ H fun b H1 => if b = true then tb { D with nx := whlN c tb n D, ct := whlN c tb n D, bk := D.nx } σ H1 else D.nx σ H1
/-- a walk over values that stand still: chk is asked of the heap at each turn -/
def forL (chk : Hp → Prop) (g : TG) (tb : TS) : List V → TS
  | [] => fun D σ H => chk H ∧ D.nx σ H
  | x :: r => fun D σ H => chk H ∧ g x σ H fun σ2 H2 => tb { D with nx := forL chk g tb r D, ct := forL chk g tb r D, bk := D.nx } σ2 H2
/-- a walk over tuples that nobody keeps -/
def forP (chk : Hp → Prop) (is : List Nat) (tb : TS) : List (List V) → TS
  | [] => fun D σ H => chk H ∧ D.nx σ H
  | x :: r => fun D σ H => chk H ∧ match setAll is x σ with
    | some σ2 => tb { D with nx := forP chk is tb r D, ct := forP chk is tb r D, bk := D.nx } σ2 H
    | none => False
def enumV : Nat → List V → List (List V)
  | _, [] => []
  | i, x :: r => [.int (i : Nat), x] :: enumV (i + 1) r
def zipV : List V → List V → List (List V)
  | x :: r, y :: t => [x, y] :: zipV r t
  | _, _ => []
def rdFor (K : PySem.W.Frag) (g : Tg) (tb : TS) : Ik → List V → TS
  | .lst, vs => fun D σ H => match vs with
    | [.ref a] => ∃ xs, forL (fun H => SqL K H a xs) (rdG K g) tb xs D σ H
    | _ => False
  | .tup, vs => fun D σ H => match vs with
    | [.ref a] => ∃ xs, forL (fun H => SqT K H a xs) (rdG K g) tb xs D σ H
    | _ => False
  | .str, vs => fun D σ H => match vs with
    | [.str x] => forL (fun _ => True) (rdG K g) tb (signsV x) D σ H
    | _ => False
  | .rng1, vs => fun D σ H => match vs with
    | [.int n] => (-(2 ^ 62) ≤ n ∧ n < 2 ^ 62) ∧ forL (fun _ => True) (rdG K g) tb (rngV 0 n.toNat) D σ H
    | _ => False
  | .rng2, vs => fun D σ H => match vs with
    | [.int a, .int b] => (-(2 ^ 62) ≤ a ∧ a < 2 ^ 62 ∧ -(2 ^ 62) ≤ b ∧ b < 2 ^ 62) ∧ forL (fun _ => True) (rdG K g) tb (rngV a (b - a).toNat) D σ H
    | _ => False
  | .enum, vs => fun D σ H => match vs, g with
    | [.ref a], .tup is => ∃ xs, forP (fun H => SqL K H a xs) is tb (enumV 0 xs) D σ H
    | _, _ => False
  | .zip, vs => fun D σ H => match vs, g with
    | [.ref a, .ref b], .tup is => ∃ xs ys, forP (fun H => SqL K H a xs ∧ SqL K H b ys) is tb (zipV xs ys) D σ H
    | _, _ => False
  | .zipS, vs => fun D σ H => match vs, g with
    | [.str x, .str y], .tup is => (x.cps.all (· < 128) = true ∧ y.cps.all (· < 128) = true ∧ x.cps.size ≤ y.cps.size) ∧ forP (fun _ => True) is tb (zipV (signsV x) (signsV y)) D σ H
    | _, _ => False
mutual
def rdS (Γ : Gm) (K : PySem.W.Frag) : Sx → TS
  | .pass => fun D σ H => D.nx σ H
  | .brk => fun D σ H => D.bk σ H
  | .cont => fun D σ H => D.ct σ H
  | .nev => fun _ _ _ => False
  | .retN => fun D _ H => D.rt .non H
  | .expr e => fun D σ H => rdE Γ K e σ H fun _ H1 => D.nx σ H1
  | .ret e => fun D σ H => rdE Γ K e σ H D.rt
  | .asg g e => fun D σ H => rdE Γ K e σ H fun x H1 => rdG K g x σ H1 D.nx
  | .par2 i j a b => fun D σ H => rdE Γ K a σ H fun x H1 => rdE Γ K b σ H1 fun y H2 => D.nx ((σ.set i (some x)).set j (some y)) H2
  | .par3 i j k a b c => fun D σ H => rdE Γ K a σ H fun x H1 => rdE Γ K b σ H1 fun y H2 => rdE Γ K c σ H2 fun z H3 => D.nx (((σ.set i (some x)).set j (some y)).set k (some z)) H3
  | .dvm i j a b => fun D σ H => rdE Γ K a σ H fun x H1 => rdE Γ K b σ H1 fun y H2 => match x, y with
    | .int p, .int q => CDiv p q ∧ D.nx ((σ.set i (some (.int (p / q)))).set j (some (.int (p % q)))) H2
    | _, _ => False
  | .aug i op e => fun D σ H => match σ[i]? with
    | some (some x) => rdE Γ K e σ H fun y H1 => rdAg op x y H1 fun z H2 => D.nx (σ.set i (some z)) H2
    | _ => False
  | .ite c t f => fun D σ H => rdT Γ K c σ H fun b H1 => if b = true then rdSs Γ K t D σ H1 else rdSs Γ K f D σ H1
  | .whl c b => fun D σ H => ∃ n, whlN (rdT Γ K c) (rdSs Γ K b) n D σ H
  | .for_ g k src b => fun D σ H => rdA Γ K src σ H fun vs H1 => rdFor K g (rdSs Γ K b) k vs D σ H1
  | .app o a => fun D σ H => rdE Γ K o σ H fun x H1 => match x with
    | .ref l => (∃ ys, SqL K H1 l ys) ∧ rdE Γ K a σ H1 fun y H2 => ∃ xs, H2 l = some (.lst xs) ∧ xs.length < sizeLine ∧ D.nx σ (upd H2 l (.lst (xs ++ [y])))
    | _ => False
  | .dput o k v => fun D σ H => rdE Γ K v σ H fun z H1 => rdE Γ K o σ H1 fun x H2 => rdE Γ K k σ H2 fun y H3 => match x, keyOf y with
    | .ref p, some c => ∃ kvs, H3 p = some (.dK kvs) ∧ kvs.length < sizeLine ∧ D.nx σ (upd H3 p (.dK (putK kvs c z)))
    | _, _ => False
  | .setLc j i k src elt => fun D σ H => rdE Γ K (.lc i k src elt) σ H fun x H1 => D.nx (σ.set j (some x)) H1
def rdSs (Γ : Gm) (K : PySem.W.Frag) : Sxs → TS
  | .nil => fun D σ H => D.nx σ H
  | .cons s r => fun D σ H => rdS Γ K s { D with nx := rdSs Γ K r D } σ H
end
end EV

end

section
set_option Elab.async false
set_option linter.all false
set_option maxRecDepth 100000
namespace EV
open PySem PySem.Spec PyProof.Rows L2
/-! ### the operators -/
section
variable {X : Cx}
theorem bin_ok : ∀ op : B2, OpR X (binaryOp op.py) (rdB op)
  | .add => by
    intro pins s σ H x y v u Q I rx ry h
    simp only [rdB] at h
    split at h
    · exact op_add pins s σ H _ _ v u Q I rx ry ⟨_, _, rfl, rfl, h⟩
    · exact op_add_str pins s σ H _ _ v u Q I rx ry ⟨_, _, rfl, rfl, h.1, h.2⟩
    · obtain ⟨xs, ys, h1, h2, h3, h4⟩ := h
      exact op_cat pins s σ H _ _ v u Q I rx ry ⟨_, _, xs, ys, rfl, rfl, h1, h2, h3, h4⟩
    · exact h.elim
  | .sub => by
    intro pins s σ H x y v u Q I rx ry h
    simp only [rdB] at h
    split at h
    · exact op_sub pins s σ H _ _ v u Q I rx ry ⟨_, _, rfl, rfl, h⟩
    · exact h.elim
  | .mul => by
    intro pins s σ H x y v u Q I rx ry h
    simp only [rdB] at h
    split at h
    · obtain ⟨c, q⟩ := h
      obtain ⟨t, rfl⟩ := rx
      obtain ⟨t', rfl⟩ := ry
      refine mul_int ⟨.int _, H, I.tok _, ⟨_, rfl⟩, q⟩ ?_
      rcases c with ⟨h1, h2⟩ | h
      · exact IntMulOk.of_bits (Nat.le_trans (intBits_le h1) (by decide)) (Nat.le_trans (intBits_le h2) (by decide))
      · exact h.ok
    · obtain ⟨c, q⟩ := h
      obtain ⟨t, rfl⟩ := rx
      obtain ⟨t', rfl⟩ := ry
      exact SB.mul c fun t' k => ⟨.str _, H, I.tok _, ⟨_, rfl⟩, q⟩
    · obtain ⟨xs, h1, h2, h3, h4⟩ := h
      exact op_rep pins s σ H _ _ v u Q I rx ry ⟨_, _, xs, rfl, rfl, h1, h2.1, h2.2, h3, h4⟩
    · exact h.elim
  | .fdiv => by
    intro pins s σ H x y v u Q I rx ry h
    simp only [rdB] at h
    split at h
    · exact op_fdiv pins s σ H _ _ v u Q I rx ry ⟨_, _, rfl, rfl, h.1, h.2⟩
    · exact h.elim
  | .mod => by
    intro pins s σ H x y v u Q I rx ry h
    simp only [rdB] at h
    split at h
    · exact op_mod pins s σ H _ _ v u Q I rx ry ⟨_, _, rfl, rfl, h.1, h.2⟩
    · exact h.elim
  | .pow => by
    intro pins s σ H x y v u Q I rx ry h
    simp only [rdB] at h
    split at h
    · exact op_pow pins s σ H _ _ v u Q I rx ry ⟨_, _, rfl, rfl, h.1, h.2⟩
    · exact h.elim
theorem one_sign {a : Str} {c : Nat} (h : a.cps.toList = [c]) : a = ⟨#[c]⟩ := TL.ext_tl h
theorem cmp_ok (hu : X.A.units + 64 < cLine) : ∀ op : C2, OpR X (compareOp op.py) (rdC X.K op)
  | .lt => by
    intro pins s σ H x y v u Q I rx ry h
    simp only [rdC] at h
    split at h
    · exact op_lt pins s σ H _ _ v u Q I rx ry ⟨_, _, rfl, rfl, h⟩
    · exact h.elim
  | .le => by
    intro pins s σ H x y v u Q I rx ry h
    simp only [rdC] at h
    split at h
    · exact op_le pins s σ H _ _ v u Q I rx ry ⟨_, _, rfl, rfl, h⟩
    · exact h.elim
  | .gt => by
    intro pins s σ H x y v u Q I rx ry h
    simp only [rdC] at h
    split at h
    · exact op_gt pins s σ H _ _ v u Q I rx ry ⟨_, _, rfl, rfl, h⟩
    · exact h.elim
  | .ge => by
    intro pins s σ H x y v u Q I rx ry h
    simp only [rdC] at h
    split at h
    · exact op_ge pins s σ H _ _ v u Q I rx ry ⟨_, _, rfl, rfl, h⟩
    · exact h.elim
  | .eq => by
    intro pins s σ H x y v u Q I rx ry h
    simp only [rdC] at h
    split at h
    · next b e =>
      obtain ⟨h1, h2⟩ := eqS_ok e
      exact op_eq pins s σ H _ _ v u Q I rx ry ⟨h1, by rw [h2]; exact h⟩
    · exact op_eqD hu pins s σ H _ _ v u Q I rx ry h
  | .ne => by
    intro pins s σ H x y v u Q I rx ry h
    simp only [rdC] at h
    split at h
    · next b e =>
      obtain ⟨h1, h2⟩ := eqS_ok e
      exact op_ne pins s σ H _ _ v u Q I rx ry ⟨h1, by rw [h2]; exact h⟩
    · exact op_neD hu pins s σ H _ _ v u Q I rx ry h
  | .isN => by
    intro pins s σ H x y v u Q I rx ry h
    simp only [rdC] at h
    split at h
    · exact op_isN pins s σ H _ _ v u Q I rx ry ⟨rfl, by rw [← isNon_eq]; exact h⟩
    · exact h.elim
  | .notN => by
    intro pins s σ H x y v u Q I rx ry h
    simp only [rdC] at h
    split at h
    · exact op_notN pins s σ H _ _ v u Q I rx ry ⟨rfl, by rw [← isNon_eq]; exact h⟩
    · exact h.elim
  | .isin => by
    intro pins s σ H x y v u Q I rx ry h
    simp only [rdC] at h
    split at h
    · split at h
      · split at h
        · next e =>
          rw [one_sign e] at rx
          exact op_in_sign pins s σ H _ _ v u Q I rx ry ⟨_, _, rfl, rfl, h⟩
        · exact h.elim
      · exact h.elim
    · obtain ⟨xs, h1, h2, h3, h4⟩ := h
      exact op_in_seq pins s σ H _ _ v u Q I rx ry ⟨_, xs, rfl, h1, h2, h3, h4⟩
    · exact h.elim
  | .notin => by
    intro pins s σ H x y v u Q I rx ry h
    simp only [rdC] at h
    split at h
    · split at h
      · split at h
        · next e =>
          rw [one_sign e] at rx
          exact op_notIn_sign pins s σ H _ _ v u Q I rx ry ⟨_, _, rfl, rfl, h⟩
        · exact h.elim
      · exact h.elim
    · obtain ⟨xs, h1, h2, h3, h4⟩ := h
      exact op_notIn_seq pins s σ H _ _ v u Q I rx ry ⟨_, xs, rfl, h1, h2, h3, h4⟩
    · exact h.elim
theorem idx_ok : IxR X (rdI X.K) := by
  intro value slice pins s σ H x y v u Q I rx ry h hs
  unfold rdI at h
  split at h
  · obtain ⟨h1, c, h2, h3⟩ := h
    exact ix_str value slice pins s σ H _ _ v u Q I rx ry ⟨_, _, c, rfl, rfl, h1, h2, h3⟩ hs
  · obtain ⟨xs, w, h1, h2, h3⟩ := h
    rcases h1 with h1 | h1
    · exact ix_list value slice pins s σ H _ _ v u Q I rx ry ⟨_, xs, _, w, rfl, rfl, h1, h2, h3⟩ hs
    · exact ix_tup value slice pins s σ H _ _ v u Q I rx ry ⟨_, xs, _, w, rfl, rfl, h1, h2, h3⟩ hs
  · exact h.elim
theorem slc_ok : SlR X (rdSl X.K) := by
  intro pins s σ H x v vl vu lo hi sl Q I rx hs pl pu h
  unfold rdSl at h
  split at h
  · exact sl_str pins s σ H _ v vl vu lo hi sl Q I rx hs pl pu ⟨_, rfl, h.1, h.2⟩
  · obtain ⟨xs, h1, h2⟩ := h
    exact sl_list pins s σ H _ v vl vu lo hi sl Q I rx hs pl pu ⟨_, xs, rfl, h1, h2⟩
  · exact h.elim
theorem isiV_cases {x : V} {t : String} {b : Bool} (h : isiV x t = some b) : t = "int" ∨ t = "bool" ∨ t = "str" ∨ t = "list" ∨ t = "tuple" := by
  unfold isiV at h
  split at h <;> first | (cases h; done) | simp
theorem tyIn_cases {t : String} (h : tyIn t = true) : t = "int" ∨ t = "bool" ∨ t = "str" ∨ t = "list" ∨ t = "tuple" := by
  unfold tyIn at h
  simp only [Bool.or_eq_true, beq_iff_eq] at h
  rcases h with (((h | h) | h) | h) | h <;> simp [h]
theorem isi_ok : CallR X (.builtin "isinstance") (rdBl X.K .isi) := by
  intro pins s σ H xs us Q I r h
  simp only [rdBl] at h
  split at h
  · next x t =>
    obtain ⟨u, w', rfl, rx, rt⟩ := vals2 r
    cases rt
    split at h
    · next b e =>
      cases x with
      | int i =>
        obtain ⟨k, rfl⟩ := rx
        rcases isiV_cases e with rfl | rfl | rfl | rfl | rfl <;> (cases (Option.some.inj e))
        · exact IsiPair.int_int ⟨.bl _, H, I, rfl, h⟩
        · exact IsiPair.int_bool ⟨.bl _, H, I.tok _, rfl, h⟩
        · exact IsiPair.int_str ⟨.bl _, H, I.tok _, rfl, h⟩
        · exact IsiPair.int_list ⟨.bl _, H, I.tok _, rfl, h⟩
        · exact IsiPair.int_tuple ⟨.bl _, H, I.tok _, rfl, h⟩
      | str i =>
        obtain ⟨k, rfl⟩ := rx
        rcases isiV_cases e with rfl | rfl | rfl | rfl | rfl <;> (cases (Option.some.inj e))
        · exact IsiPair.str_int ⟨.bl _, H, I.tok _, rfl, h⟩
        · exact IsiPair.str_bool ⟨.bl _, H, I.tok _, rfl, h⟩
        · exact IsiPair.str_str ⟨.bl _, H, I, rfl, h⟩
        · exact IsiPair.str_list ⟨.bl _, H, I.tok _, rfl, h⟩
        · exact IsiPair.str_tuple ⟨.bl _, H, I.tok _, rfl, h⟩
      | bl i =>
        cases rx
        rcases isiV_cases e with rfl | rfl | rfl | rfl | rfl <;> (cases (Option.some.inj e))
        · exact IsiPair.bool_int ⟨.bl _, H, I, rfl, h⟩
        · exact IsiPair.bool_bool ⟨.bl _, H, I, rfl, h⟩
        · exact IsiPair.bool_str ⟨.bl _, H, I.tok _, rfl, h⟩
        · exact IsiPair.bool_list ⟨.bl _, H, I.tok _, rfl, h⟩
        · exact IsiPair.bool_tuple ⟨.bl _, H, I.tok _, rfl, h⟩
      | non =>
        cases rx
        rcases isiV_cases e with rfl | rfl | rfl | rfl | rfl <;> (cases (Option.some.inj e))
        · exact IsiPair.NoneType_int ⟨.bl _, H, I.tok _, rfl, h⟩
        · exact IsiPair.NoneType_bool ⟨.bl _, H, I.tok _, rfl, h⟩
        · exact IsiPair.NoneType_str ⟨.bl _, H, I.tok _, rfl, h⟩
        · exact IsiPair.NoneType_list ⟨.bl _, H, I.tok _, rfl, h⟩
        · exact IsiPair.NoneType_tuple ⟨.bl _, H, I.tok _, rfl, h⟩
      | _ => exact absurd (show none = some b from e) (by simp)
    · split at h
      · obtain ⟨ht, h⟩ := h
        cases rx
        rcases h with ⟨ys, hq, h⟩ | ⟨ys, hq, h⟩
        · obtain ⟨its, _, ⟨o, n, ho, hc, _, _⟩, _⟩ := I.list hq
          rcases tyIn_cases ht with rfl | rfl | rfl | rfl | rfl
          · exact IsiPair.list_int ho hc ⟨.bl false, H, I.tok _, rfl, h⟩
          · exact IsiPair.list_bool ho hc ⟨.bl false, H, I.tok _, rfl, h⟩
          · exact IsiPair.list_str ho hc ⟨.bl false, H, I.tok _, rfl, h⟩
          · exact IsiPair.list_list ho hc ⟨.bl true, H, I, rfl, h⟩
          · exact IsiPair.list_tuple ho hc ⟨.bl false, H, I.tok _, rfl, h⟩
        · obtain ⟨its, _, ⟨o, ho, hc, _⟩, _⟩ := I.tuple hq
          rcases tyIn_cases ht with rfl | rfl | rfl | rfl | rfl
          · exact IsiPair.tuple_int ho hc ⟨.bl false, H, I.tok _, rfl, h⟩
          · exact IsiPair.tuple_bool ho hc ⟨.bl false, H, I.tok _, rfl, h⟩
          · exact IsiPair.tuple_str ho hc ⟨.bl false, H, I.tok _, rfl, h⟩
          · exact IsiPair.tuple_list ho hc ⟨.bl false, H, I.tok _, rfl, h⟩
          · exact IsiPair.tuple_tuple ho hc ⟨.bl true, H, I, rfl, h⟩
      · exact h.elim
  · exact h.elim
theorem isi2_ok {t : Ty} : CallR X (.builtin "isinstance") (fun vs H Q => match vs with | [x, .ty u] => u = t.nm ∧ rdIsi X.K x t H Q | _ => False) := by
  intro pins s σ H xs us Q I r h
  split at h
  · next x u =>
    obtain ⟨h0, h⟩ := h
    subst h0
    cases x with
    | int i =>
      refine isi_ok pins s σ H _ us Q I r ?_
      cases t <;> exact h
    | bl i =>
      refine isi_ok pins s σ H _ us Q I r ?_
      cases t <;> exact h
    | str i =>
      refine isi_ok pins s σ H _ us Q I r ?_
      cases t <;> exact h
    | non =>
      refine isi_ok pins s σ H _ us Q I r ?_
      cases t <;> exact h
    | ref p =>
      have h : (∃ xs, SqL X.K H p xs ∧ Q (.bl t.isL) H) ∨ (∃ xs, SqT X.K H p xs ∧ Q (.bl t.isT) H) ∨ (∃ kvs, H p = some (.dK kvs) ∧ Q (.bl false) H) := h
      rcases h with ⟨ys, hq, hz⟩ | ⟨ys, hq, hz⟩ | ⟨kvs, hq, hz⟩
      · refine isi_ok pins s σ H _ us Q I r ?_
        cases t <;> exact ⟨rfl, .inl ⟨ys, hq, hz⟩⟩
      · refine isi_ok pins s σ H _ us Q I r ?_
        cases t <;> exact ⟨rfl, .inr ⟨ys, hq, hz⟩⟩
      · obtain ⟨u, w', rfl, rx, rt⟩ := vals2 r
        cases rx
        cases rt
        obtain ⟨_, _, _, _, o, _, _, e, ex, _⟩ := I.hok p _ hq
        cases t
        · exact IsiPair.dict_int e ex.1 ⟨.bl false, H, I.tok _, rfl, hz⟩
        · exact IsiPair.dict_str e ex.1 ⟨.bl false, H, I.tok _, rfl, hz⟩
        · exact IsiPair.dict_bool e ex.1 ⟨.bl false, H, I.tok _, rfl, hz⟩
        · exact IsiPair.dict_list e ex.1 ⟨.bl false, H, I.tok _, rfl, hz⟩
        · exact IsiPair.dict_tuple e ex.1 ⟨.bl false, H, I.tok _, rfl, hz⟩
    | _ => exact False.elim h
  · exact h.elim
theorem blt_ok (hc : X.calm = true) : ∀ b : Bl, CallR X (.builtin b.nm) (rdBl X.K b)
  | .len => by
    intro pins s σ H xs us Q I r h
    simp only [rdBl] at h
    split at h
    · exact call_len_str pins s σ H _ us Q I r ⟨_, rfl, h.1, h.2⟩
    · obtain ⟨ys, h1, h2⟩ := h
      exact call_len_seq pins s σ H _ us Q I r ⟨_, ys, rfl, h1, h2⟩
    · exact h.elim
  | .max => by
    intro pins s σ H xs us Q I r h
    simp only [rdBl] at h
    split at h
    · exact call_max2 hc pins s σ H _ us Q I r ⟨_, _, rfl, h⟩
    · exact h.elim
  | .min => by
    intro pins s σ H xs us Q I r h
    simp only [rdBl] at h
    split at h
    · exact call_min2 hc pins s σ H _ us Q I r ⟨_, _, rfl, h⟩
    · exact h.elim
  | .abs => by
    intro pins s σ H xs us Q I r h
    simp only [rdBl] at h
    split at h
    · exact call_abs pins s σ H _ us Q I r ⟨_, rfl, h⟩
    · exact h.elim
  | .isi => isi_ok
  | .all => fun pins s σ H xs us Q I r h => cr_all hc pins s σ H xs us Q I r h
  | .any => fun pins s σ H xs us Q I r h => cr_any hc pins s σ H xs us Q I r h
theorem btc_ok : ∀ b : Bt, CallR X (.type b.nm) (fun vs H Q => match vs with | [x] => rdBt X.K b x H Q | _ => False)
  | .int => by
    intro pins s σ H xs us Q I r h
    split at h
    · simp only [rdBt] at h
      split at h
      · obtain ⟨n, h1, h2, h3⟩ := h
        exact call_int_str pins s σ H _ us Q I r ⟨_, n, rfl, h1, h2, h3⟩
      · exact h.elim
    · exact h.elim
  | .str => by
    intro pins s σ H xs us Q I r h
    split at h
    · simp only [rdBt] at h
      split at h
      · exact call_str_int pins s σ H _ us Q I r ⟨_, rfl, h.1, h.2⟩
      · exact h.elim
    · exact h.elim
  | .list => by
    intro pins s σ H xs us Q I r h
    split at h
    · simp only [rdBt] at h
      split at h
      · obtain ⟨ys, h1, h2⟩ := h
        exact call_list_of pins s σ H _ us Q I r ⟨_, ys, rfl, h1, h2⟩
      · exact h.elim
    · exact h.elim
end
end EV

end

section
set_option Elab.async false
set_option linter.all false
set_option maxRecDepth 100000
namespace EV
open PySem PySem.Spec PyProof.Rows L2
section
variable {X : Cx}
theorem m1_ok : ∀ m : M1, (∃ id, Slot "str" (Str.ofString m.nm) id ∧ typeOf (.builtin id) = pure (.type "method_descriptor") ∧
    MtR X id (fun x vs H Q => match vs with | [y] => rdM1 X.K m x y H Q | _ => False))
  | .find => ⟨_, F.slot_str_find, F.type_str_find, by
    intro pins s σ H x xs v us Q I rx r h
    split at h
    · simp only [rdM1] at h
      split at h
      · exact mt_find pins s σ H _ _ v us Q I rx r ⟨_, _, rfl, rfl, h⟩
      · exact h.elim
    · exact h.elim⟩
  | .startswith => ⟨_, F.slot_str_startswith, F.type_str_startswith, by
    intro pins s σ H x xs v us Q I rx r h
    split at h
    · simp only [rdM1] at h
      split at h
      · exact mt_startswith pins s σ H _ _ v us Q I rx r ⟨_, _, rfl, rfl, h⟩
      · exact h.elim
    · exact h.elim⟩
  | .endswith => ⟨_, F.slot_str_endswith, F.type_str_endswith, by
    intro pins s σ H x xs v us Q I rx r h
    split at h
    · simp only [rdM1] at h
      split at h
      · exact mt_endswith pins s σ H _ _ v us Q I rx r ⟨_, _, rfl, rfl, h⟩
      · exact h.elim
    · exact h.elim⟩
  | .index => ⟨_, F.slot_str_index, F.type_str_index, by
    intro pins s σ H x xs v us Q I rx r h
    split at h
    · simp only [rdM1] at h
      split at h
      · next a b =>
        obtain ⟨h0, h⟩ := h
        obtain ⟨t, rfl⟩ := rx
        cases r with
        | cons r1 rs =>
          cases rs
          obtain ⟨u, rfl⟩ := r1
          unfold Txt.find at h0 h
          cases e : Builtin.Str.occurrences a b 0 a.length 1 with
          | nil =>
            rw [e] at h0
            exact absurd h0 (by decide)
          | cons i rest =>
            rw [e] at h
            exact SC.index e ⟨.int i, H, I.tok _, ⟨_, rfl⟩, h⟩
      · exact h.elim
    · exact h.elim⟩
  | .join => ⟨_, F.slot_str_join, F.type_str_join, by
    intro pins s σ H x xs v us Q I rx r h
    split at h
    · simp only [rdM1] at h
      split at h
      · obtain ⟨ys, h1, h2, h3⟩ := h
        exact mt_join pins s σ H _ _ v us Q I rx r ⟨_, _, ys, rfl, rfl, h1, h2, h3⟩
      · exact h.elim
    · exact h.elim⟩
  | .split => ⟨_, F.slot_str_split, F.type_str_split, by
    intro pins s σ H x xs v us Q I rx r h
    split at h
    · simp only [rdM1] at h
      split at h
      · exact mt_split pins s σ H _ _ v us Q I rx r ⟨_, _, rfl, rfl, h.1, h.2.1, h.2.2⟩
      · exact h.elim
    · exact h.elim⟩
theorem rdM1_str {K : PySem.W.Frag} {m : M1} {x y : V} {H : Hp} {Q : VK} (h : rdM1 K m x y H Q) : ∃ a, x = .str a := by
  cases m <;> cases x <;> first
    | exact ⟨_, rfl⟩
    | (cases y <;> exact False.elim h)
end

/-! ### views of the text -/
def vName : Expr → Option Str
  | .Name x _ => some x
  | _ => none
theorem vName_ok {e : Expr} {x : Str} (h : vName e = some x) : ∃ p, e = .Name x p := by
  cases e <;> first | (cases h; done) | (cases (Option.some.inj h); exact ⟨_, rfl⟩)
def vConst : Expr → Option Const
  | .Constant c _ _ => some c
  | _ => none
theorem vConst_ok {e : Expr} {x : Const} (h : vConst e = some x) : ∃ k p, e = .Constant x k p := by
  cases e <;> first | (cases h; done) | (cases (Option.some.inj h); exact ⟨_, _, rfl⟩)
def vBin : Expr → Option (Expr × Operator × Expr)
  | .BinOp a o b _ => some (a, o, b)
  | _ => none
theorem vBin_ok {e : Expr} {a b : Expr} {o : Operator} (h : vBin e = some (a, o, b)) : ∃ p, e = .BinOp a o b p := by
  cases e <;> first | (cases h; done) | (cases (Option.some.inj h); exact ⟨_, rfl⟩)
def vUn : Expr → Option (UnaryOp × Expr)
  | .UnaryOp o a _ => some (o, a)
  | _ => none
theorem vUn_ok {e : Expr} {a : Expr} {o : UnaryOp} (h : vUn e = some (o, a)) : ∃ p, e = .UnaryOp o a p := by
  cases e <;> first | (cases h; done) | (cases (Option.some.inj h); exact ⟨_, rfl⟩)
def vCmp : Expr → Option (Expr × List CmpOp × List Expr)
  | .Compare a os bs _ => some (a, os, bs)
  | _ => none
theorem vCmp_ok {e : Expr} {a : Expr} {os : List CmpOp} {bs : List Expr} (h : vCmp e = some (a, os, bs)) : ∃ p, e = .Compare a os bs p := by
  cases e <;> first | (cases h; done) | (cases (Option.some.inj h); exact ⟨_, rfl⟩)
def vBool : Expr → Option (BoolOp × List Expr)
  | .BoolOp o es _ => some (o, es)
  | _ => none
theorem vBool_ok {e : Expr} {o : BoolOp} {es : List Expr} (h : vBool e = some (o, es)) : ∃ p, e = .BoolOp o es p := by
  cases e <;> first | (cases h; done) | (cases (Option.some.inj h); exact ⟨_, rfl⟩)
def vSub : Expr → Option (Expr × Expr)
  | .Subscript a b _ => some (a, b)
  | _ => none
theorem vSub_ok {e a b : Expr} (h : vSub e = some (a, b)) : ∃ p, e = .Subscript a b p := by
  cases e <;> first | (cases h; done) | (cases (Option.some.inj h); exact ⟨_, rfl⟩)
def vSlice : Expr → Option (Option Expr × Option Expr × Option Expr)
  | .Slice a b c _ => some (a, b, c)
  | _ => none
theorem vSlice_ok {e : Expr} {a b c : Option Expr} (h : vSlice e = some (a, b, c)) : ∃ p, e = .Slice a b c p := by
  cases e <;> first | (cases h; done) | (cases (Option.some.inj h); exact ⟨_, rfl⟩)
def vCall : Expr → Option (Expr × List Expr × List Keyword × Pos)
  | .Call f es ks p => some (f, es, ks, p)
  | _ => none
theorem vCall_ok {e f : Expr} {es : List Expr} {ks : List Keyword} {p : Pos} (h : vCall e = some (f, es, ks, p)) : e = .Call f es ks p := by
  cases e <;> first | (cases h; done) | (cases (Option.some.inj h); rfl)
def vAttr : Expr → Option (Expr × Str × Pos)
  | .Attribute o x p => some (o, x, p)
  | _ => none
theorem vAttr_ok {e o : Expr} {x : Str} {p : Pos} (h : vAttr e = some (o, x, p)) : e = .Attribute o x p := by
  cases e <;> first | (cases h; done) | (cases (Option.some.inj h); rfl)
def vList : Expr → Option (List Expr)
  | .List es _ => some es
  | _ => none
theorem vList_ok {e : Expr} {es : List Expr} (h : vList e = some es) : ∃ p, e = .List es p := by
  cases e <;> first | (cases h; done) | (cases (Option.some.inj h); exact ⟨_, rfl⟩)
def vTup : Expr → Option (List Expr)
  | .Tuple es _ _ => some es
  | _ => none
theorem vTup_ok {e : Expr} {es : List Expr} (h : vTup e = some es) : ∃ k p, e = .Tuple es k p := by
  cases e <;> first | (cases h; done) | (cases (Option.some.inj h); exact ⟨_, _, rfl⟩)
def noStar : Expr → Bool
  | .Starred .. => false
  | _ => true
theorem noStar_ok {e : Expr} (h : noStar e = true) (es : List Expr) (env : Env) : starEach (e :: es) env = (false, eval e env) :: starEach es env := by
  cases e <;> first | (cases h; done) | rfl
theorem stars_any {env : Env} {pos : Pos} : ∀ {es : List Expr}, es.all noStar = true → (backTo pos (starEach es env)).any (·.1) = false
  | [], _ => rfl
  | e :: es, h => by
    rw [List.all_cons, Bool.and_eq_true] at h
    rw [noStar_ok h.1]
    show (false || (backTo pos (starEach es env)).any (·.1)) = false
    rw [stars_any h.2]
    rfl
def noComp : Expr → Bool
  | .ListComp .. => false | .SetComp .. => false | .DictComp .. => false
  | _ => true
theorem noComp_sw {e : Expr} (h : noComp e = true) (t : Option Expr) (n : Nat) (env : Env) : swapsWith e t n env = pure false := by
  cases e <;> first | (cases h; done) | rfl
def noSet : Expr → Bool
  | .Set .. => false
  | _ => true
theorem noSet_mark {op : CmpOp} {b : Expr} (h : noSet b = true) : behindInMarks op b = false := by
  cases b <;> first | (cases h; done) | rfl
theorem noSet_fold {e : Expr} (h : noSet e = true) (env : Env) : ∀ x, foldedSetIterable e env x = pure x := by
  intro x
  cases e <;> first | (cases h; done) | rfl
def noSlice : Expr → Bool
  | .Slice .. => false
  | _ => true
theorem noSlice_ix {e : Expr} (h : noSlice e = true) : PlainIx e := by
  intro o i
  cases e <;> first | (cases h; done) | rfl
def noSuper : Expr → Bool
  | .Call .. => false
  | _ => true
theorem noSuper_ok {o : Expr} (h : noSuper o = true) (x : Str) (env : Env) (w : Sem Value) : attributeBase o x env w = w := by
  cases o <;> first | (cases h; done) | rfl
/-- the test of a plain expression -/
def plainT : Expr → Bool
  | .UnaryOp .Not _ _ => false
  | .BoolOp .. => false | .IfExp .. => false | .Compare .. => false
  | _ => true
theorem plainT_ok {e : Expr} (h : plainT e = true) (env : Env) : ∀ whole, isTrue e env whole = (do let v ← whole; standAt e.pos; holding [v] (truthy v)) := by
  intro wh
  cases e <;> first
    | (cases h; done)
    | rfl
    | (rename_i op _ _; cases op <;> first | (cases h; done) | rfl)
end EV

end

section
set_option Elab.async false
set_option linter.all false
set_option maxRecDepth 100000
namespace EV
open PySem PySem.Spec PyProof.Rows L2

/-! ### the text is that of the own syntax -/
def visB (sc : Scope) (x : Str) : Bool := match sc.names.lookup x with
  | some .local => true | some .cell => true | some .free => true
  | _ => false
def glB (sc : Scope) (x : Str) : Bool := match sc.names.lookup x with
  | some .globalImplicit => true
  | _ => false
def okN (x : Str) : Bool := !(x == ("__debug__" : Str)) && !(x == ("__classdict__" : Str)) && !(x == ("__name__" : Str))
theorem visB_ok {sc : Scope} {x : Str} (h : visB sc x = true) : Vis sc x := by
  unfold visB at h
  split at h <;> first | (cases h; done) | (rename_i e; first | exact .inl e | exact .inr (.inl e) | exact .inr (.inr e))
theorem glB_ok {sc : Scope} {x : Str} (h : glB sc x = true) : sc.names.lookup x = some .globalImplicit := by
  unfold glB at h
  split at h <;> first | (cases h; done) | assumption
theorem okN_ok {x : Str} (h : okN x = true) : (x == ("__debug__" : Str)) = false ∧ (x == ("__classdict__" : Str)) = false ∧ x ≠ ("__name__" : Str) := by
  unfold okN at h
  simp only [Bool.and_eq_true, Bool.not_eq_true'] at h
  exact ⟨h.1.1, h.1.2, fun e => by rw [e] at h; simp at h⟩
def constV : Const → Option V
  | .none => some .non
  | .bool b => some (.bl b)
  | .int i => some (.int i)
  | .str x => some (.str x)
  | _ => none
def allM (f : Ex → Expr → Bool) : Exs → List Expr → Bool
  | .nil, [] => true
  | .cons a r, e :: es => noStar e && f a e && allM f r es
  | _, _ => false
def optM (f : Ex → Expr → Bool) : Exs → Option Expr → Bool
  | .nil, none => true
  | .cons a .nil, some e => f a e
  | _, _ => false
def boolM (f : Ex → Expr → Bool) : Exs → List Expr → Bool
  | .cons a .nil, [e] => f a e
  | .cons a (.cons b r), e :: d :: es => f a e && boolM f (.cons b r) (d :: es)
  | _, _ => false
def locB (top : Bool) (sc : Scope) (x : Str) : Bool := match sc.names.lookup x with
  | some .local => true
  | some .cell => top
  | _ => false
def mN (Γ : Gm) (top : Bool) (sc : Scope) (i : Nat) (e : Expr) : Bool := match vName e with
  | some x => decide (Γ.N[i]? = some x) && locB top sc x
  | none => false
def vIf : Expr → Option (Expr × Expr × Expr)
  | .IfExp t a b _ => some (t, a, b)
  | _ => none
theorem vIf_ok {e t a b : Expr} (h : vIf e = some (t, a, b)) : ∃ p, e = .IfExp t a b p := by
  cases e <;> first | (cases h; done) | (cases (Option.some.inj h); exact ⟨_, rfl⟩)
def vLc : Expr → Option (Expr × List Comprehension × Scope)
  | .ListComp x gs sc _ => some (x, gs, sc)
  | _ => none
theorem vLc_ok {e x : Expr} {gs : List Comprehension} {sc : Scope} (h : vLc e = some (x, gs, sc)) : ∃ p, e = .ListComp x gs sc p := by
  cases e <;> first | (cases h; done) | (cases (Option.some.inj h); exact ⟨_, rfl⟩)
def vDict : Expr → Option (List (Option Expr) × List Expr)
  | .Dict ks vs _ => some (ks, vs)
  | _ => none
theorem vDict_ok {e : Expr} {ks : List (Option Expr)} {vs : List Expr} (h : vDict e = some (ks, vs)) : ∃ p, e = .Dict ks vs p := by
  cases e <;> first | (cases h; done) | (cases (Option.some.inj h); exact ⟨_, rfl⟩)
def plainX : Ex → Bool
  | .var _ => true | .cst _ => true | .glb _ => true | .idx _ _ => true | .call _ _ => true | .blt _ _ => true | .btc _ _ => true | .m1 _ _ _ => true | .isi _ _ => true | .dgt _ _ => true | .dgt2 _ _ _ => true
  | _ => false
def isCmpX : Ex → Bool
  | .cmp _ _ _ => true
  | _ => false
def isChnX : Ex → Bool
  | .chn _ _ _ _ _ => true
  | _ => false
def elM (f : Ex → Expr → Bool) (a : Ex) (x : Expr) : Bool := f a x && (isCmpX a || isChnX a || (plainX a && plainT x))
/-- a test whose reading is that of its value -/
def testM (f : Ex → Expr → Bool) (c : Ex) (t : Expr) : Bool := match c with
  | .and es => (match vBool t with | some (.And, xs) => boolM (elM f) es xs | _ => false)
  | .or es => (match vBool t with | some (.Or, xs) => boolM (elM f) es xs | _ => false)
  | c => elM f c t
def callOf (nm : String) : Expr → Option (List Expr)
  | .Call (.Name x _) es [] _ => if x = Str.ofString nm then some es else none
  | _ => none
theorem callOf_ok {nm : String} {e : Expr} {es : List Expr} (h : callOf nm e = some es) : ∃ p q, e = .Call (.Name (Str.ofString nm) p) es [] q := by
  unfold callOf at h
  split at h
  · split at h
    · next e1 =>
      cases (Option.some.inj h)
      subst e1
      exact ⟨_, _, rfl⟩
    · cases h
  · cases h
def lcM (f : Ex → Expr → Bool) (bl : List Str) (sc : Scope) : Ik → Ex → Expr → Bool
  | .lst, a, e => f a e
  | .tup, a, e => f a e
  | .str, a, e => f a e
  | .rng1, a, e => (match callOf "range" e with
    | some [x] => glB sc "range" && decide (("range" : Str) ∈ bl) && noStar x && f a x
    | _ => false)
  | _, _, _ => false
def keyE : Expr → Option Key
  | .Constant (.int i) _ _ => some (.inl i)
  | .Constant (.str x) _ _ => some (.inr x)
  | _ => none
def dctM : List (Key × V) → List (Option Expr) → List Expr → Bool
  | [], [], [] => true
  | (k, v) :: r, some e :: ks, x :: vs => decide (keyE e = some k) && (match vConst x with | some c => decide (constV c = some v) | none => false) && dctM r ks vs
  | _, _, _ => false
def mE (Γ : Gm) : Nat → Scope → Ex → Expr → Bool
  | 0, _, _, _ => false
  | n + 1, sc, ex, e => match ex with
    | .var i => (match vName e with
      | some x => decide (Γ.N[i]? = some x) && visB sc x && okN x
      | none => false)
    | .cst v => (match vConst e with
      | some c => decide (constV c = some v)
      | none => false)
    | .glb k => (match vName e, Γ.gl[k]? with
      | some x, some g => decide (g.1 = x) && glB sc x && okN x
      | _, _ => false)
    | .ty t => (match vName e with
      | some x => decide (x = Str.ofString t.nm) && glB sc x && decide (x ∈ Γ.bl) && okN x
      | none => false)
    | .bin op a b => (match vBin e with
      | some (x, o, y) => decide (o = op.py) && mE Γ n sc a x && mE Γ n sc b y
      | none => false)
    | .neg a => (match vUn e with
      | some (.USub, x) => mE Γ n sc a x
      | _ => false)
    | .cmp op a b => (match vCmp e with
      | some (x, [o], [y]) => decide (o = op.py) && noSet y && mE Γ n sc a x && mE Γ n sc b y
      | _ => false)
    | .chn o p a b c => (match vCmp e with
      | some (x, [o', p'], [y, z]) => decide (o' = o.py) && decide (p' = p.py) && noSet z && mE Γ n sc a x && mE Γ n sc b y && mE Γ n sc c z
      | _ => false)
    | .and es => (match vBool e with
      | some (.And, xs) => boolM (mE Γ n sc) es xs
      | _ => false)
    | .or es => (match vBool e with
      | some (.Or, xs) => boolM (mE Γ n sc) es xs
      | _ => false)
    | .not a => (match vUn e with
      | some (.Not, x) => mE Γ n sc a x
      | _ => false)
    | .ite c a b => (match vIf e with
      | some (t, x, y) => testM (mE Γ n sc) c t && mE Γ n sc a x && mE Γ n sc b y
      | none => false)
    | .idx a b => (match vSub e with
      | some (x, y) => noSlice y && mE Γ n sc a x && mE Γ n sc b y
      | none => false)
    | .slc a lo hi => (match vSub e with
      | some (x, y) => (match vSlice y with
        | some (l, h, none) => mE Γ n sc a x && optM (mE Γ n sc) lo l && optM (mE Γ n sc) hi h
        | _ => false)
      | none => false)
    | .call k es => (match vCall e with
      | some (f, x :: xs, [], _) => (match vName f, Γ.fn[k]? with
        | some y, some g => decide (g.1 = y) && glB sc y && okN y && allM (mE Γ n sc) es (x :: xs)
        | _, _ => false)
      | _ => false)
    | .blt b es => (match vCall e with
      | some (f, x :: xs, [], _) => (match vName f with
        | some y => decide (y = Str.ofString b.nm) && glB sc y && decide (y ∈ Γ.bl) && okN y && allM (mE Γ n sc) es (x :: xs)
        | _ => false)
      | _ => false)
    | .btc b a => (match vCall e with
      | some (f, [x], [], _) => (match vName f with
        | some y => decide (y = Str.ofString b.nm) && glB sc y && decide (y ∈ Γ.bl) && okN y && noStar x && mE Γ n sc a x
        | _ => false)
      | _ => false)
    | .m1 m o a => (match vCall e with
      | some (f, [x], [], p) => (match vAttr f with
        | some (y, nm, q) => decide (nm = Str.ofString m.nm) && noSuper y && noStar x && (q.endLine == p.line) && mE Γ n sc o y && mE Γ n sc a x
        | _ => false)
      | _ => false)
    | .lst es => (match vList e with
      | some xs => allM (mE Γ n sc) es xs
      | none => false)
    | .tup es => (match vTup e with
      | some xs => allM (mE Γ n sc) es xs
      | none => false)
    | .isi a t => (match callOf "isinstance" e with
      | some [x, y] => (match vName y with
        | some z => decide (z = Str.ofString t.nm) && glB sc z && decide (z ∈ Γ.bl) && okN z && glB sc "isinstance" && decide (("isinstance" : Str) ∈ Γ.bl) && noStar x && mE Γ n sc a x
        | none => false)
      | _ => false)
    | .lc i k src elt => (match vLc e with
      | some (x, [⟨t, it, [], 0⟩], scope) => mN Γ false (relS scope sc) i t && (match vName t with | some y => blkC Γ.N sc scope [(y, i)] | none => false) && noSet it && lcM (mE Γ n sc) Γ.bl sc k src it && mE Γ n (relS scope sc) elt x
      | _ => false)
    | .dct kvs => (match vDict e with
      | some (ks, vs) => dctM kvs ks vs && decide ((kvs.map (·.1)).Nodup) && decide (kvs.length ≤ 15)
      | none => false)
    | .dgt o k => (match vSub e with
      | some (x, y) => noSlice y && mE Γ n sc o x && mE Γ n sc k y
      | none => false)
    | .dgt2 o k d => (match vCall e with
      | some (f, [x, z], [], p) => (match vAttr f with
        | some (y, nm, q) => decide (nm = ("get" : Str)) && noSuper y && noStar x && noStar z && (q.endLine == p.line) && mE Γ n sc o y && mE Γ n sc k x && mE Γ n sc d z
        | _ => false)
      | _ => false)

/-- the context is as Γ says -/
structure Good (Γ : Gm) (top : Bool) (X : Cx) : Prop where
  hN : X.N = Γ.N
  nd : Γ.N.Nodup
  calm : X.calm = true
  top : top = true → ∀ x, X.fn x = true
  un : X.A.units + 64 < cLine
  xe : X.xe = fun _ _ => False
  fn : ∀ (k : Nat) (g : Str × Sp), Γ.fn[k]? = some g → ∃ f fd ps m, FnOk X.prog X.w X.K X.mg X.base CX0 m f fd ps g.2 ∧ Room m X.A ∧ X.mg g.1 = some (.ref f) ∧ PySem.W.keepIn X.K (.ref f) = true ∧ Binds X.K fd ps []
  gl : ∀ (k : Nat) (g : Str × V), Γ.gl[k]? = some g → ∃ u, X.mg g.1 = some u ∧ RelV g.2 u
  bl : ∀ x ∈ Γ.bl, X.mg x = none

theorem ty_boot : ∀ t : Ty, bootBuiltins (Str.ofString t.nm) = some (.type t.nm)
  | .int => by decide +kernel | .str => by decide +kernel | .bool => by decide +kernel | .list => by decide +kernel | .tuple => by decide +kernel
theorem bl_boot : ∀ b : Bl, bootBuiltins (Str.ofString b.nm) = some (.builtin b.nm)
  | .len => by decide +kernel | .max => by decide +kernel | .min => by decide +kernel | .abs => by decide +kernel | .isi => by decide +kernel | .all => by decide +kernel | .any => by decide +kernel
theorem bt_boot : ∀ b : Bt, bootBuiltins (Str.ofString b.nm) = some (.type b.nm)
  | .int => by decide +kernel | .str => by decide +kernel | .list => by decide +kernel

section
variable {Γ : Gm} {top : Bool} {X : Cx}
theorem locB_ok (G : Good Γ top X) {x : Str} (h : locB top X.env.scope x = true) : Loc X.env.scope x ∧ (X.fn x = true ∨ X.env.scope.names.lookup x = some .local) := by
  unfold locB at h
  split at h
  · next e => exact ⟨.inl e, .inr e⟩
  · next e => exact ⟨.inr e, .inl (G.top h x)⟩
  · cases h
theorem mN_ok (G : Good Γ top X) {i : Nat} {e : Expr} (h : mN Γ top X.env.scope i e = true) : ∃ x p, e = .Name x p ∧ X.N[i]? = some x ∧ Loc X.env.scope x ∧ (X.fn x = true ∨ X.env.scope.names.lookup x = some .local) := by
  unfold mN at h
  split at h
  · next x hx =>
    obtain ⟨p, rfl⟩ := vName_ok hx
    simp only [Bool.and_eq_true, decide_eq_true_eq] at h
    obtain ⟨h1, h2⟩ := locB_ok G h.2
    exact ⟨x, p, rfl, by rw [G.hN]; exact h.1, h1, h2⟩
  · cases h
theorem PE.mono {e : Expr} {t : TE} (h : PE X e t) : PE X e (fun σ H Q => ∃ Q', (∀ v H, Q' v H → Q v H) ∧ t σ H Q') :=
  fun pins s σ H Q I ⟨Q', m, w⟩ => thn (h pins s σ H Q' I w) fun u s1 ⟨v, H1, I1, r, q⟩ => ⟨v, H1, I1, r, m _ _ q⟩
theorem PA.mono {es : List Expr} {t : TA} (h : PA X es t) : PA X es (fun σ H Q => ∃ Q', (∀ v H, Q' v H → Q v H) ∧ t σ H Q') :=
  fun pos pins s σ H Q I ⟨Q', m, w⟩ => thn (h pos pins s σ H Q' I w) fun u s1 ⟨v, H1, I1, r, q⟩ => ⟨v, H1, I1, r, m _ _ q⟩
theorem Good.blk (G : Good Γ top X) {s : Shared} {H : Hp} {scope : Scope} {ce : Env} {fp : List Addr} : Good Γ false (X.blk s H scope ce fp) :=
  ⟨G.hN, G.nd, G.calm, fun z => absurd z Bool.false_ne_true, G.un, rfl, G.fn, G.gl, G.bl⟩
theorem rngV_len (lo : Int) (n : Nat) : (rngV lo n).length = n := by simp [rngV]
theorem lc_of {J : It} {chk : Hp → Prop} {xs : List V} {te : TE} {σ : L2.St} {i : Nat} {D : Addr} {H1 : Hp} {Qd : Hp → Prop}
    (hgo : ∀ j H, chk H → j < xs.length → J.go j H ∧ ∀ x H', J.yld j H x H' → H' = H ∧ xs[j]? = some x) (hstop : ∀ j H, chk H → xs.length ≤ j → J.stop j H)
    (h : lcL chk te (σ.set i none) i D xs [] (upd H1 D (.lst [])) Qd) :
    ∃ W : Nat → Nat → Hp → Prop, (∃ m, W 0 m (upd H1 D (.lst []))) ∧ ∀ j m H, W j m H →
      (J.stop j H ∧ Qd H) ∨ (J.go j H ∧ ∃ Nx : Hp → Prop, (∀ H', Nx H' → ∃ m', m' < m ∧ W (j + 1) m' H') ∧ ∀ x H', J.yld j H x H' → gName i x (wipe σ [i]) H' fun σ2 H2 => wipe σ2 [i] = wipe σ [i] ∧ tYes σ2 H2 fun b H3 =>
        if b = true then (fun (σ : L2.St) (H : Hp) (Q : VK) => ∃ Q', (∀ v H, Q' v H → Q v H) ∧ te σ H Q') σ2 H3 fun y H4 => ∃ acc, H4 D = some (.lst acc) ∧ acc.length < sizeLine ∧ Nx (upd H4 D (.lst (acc ++ [y]))) else Nx H3) := by
  refine ⟨fun j m H => m = xs.length - j ∧ j ≤ xs.length ∧ ∃ acc, lcL chk te (σ.set i none) i D (xs.drop j) acc H Qd, ⟨xs.length, by simp, Nat.zero_le _, [], h⟩, ?_⟩
  rintro j m H ⟨rfl, hj, acc, p⟩
  by_cases hlt : j < xs.length
  · have e : xs.drop j = xs[j] :: xs.drop (j + 1) := List.drop_eq_getElem_cons hlt
    rw [e] at p
    obtain ⟨hc, p⟩ := p
    obtain ⟨go, yl⟩ := hgo j H hc hlt
    refine .inr ⟨go, fun H' => ∃ acc, lcL chk te (σ.set i none) i D (xs.drop (j + 1)) acc H' Qd, fun H' p' => ⟨xs.length - (j + 1), by omega, rfl, hlt, p'⟩, fun x H' y => ?_⟩
    obtain ⟨e1, e2⟩ := yl x H' y
    subst e1
    rw [List.getElem?_eq_getElem hlt] at e2
    have e2 := Option.some.inj e2
    rw [e2] at p
    have w1 : ∀ σ : L2.St, wipe σ [i] = σ.set i none := fun _ => rfl
    refine ⟨by rw [w1, w1, List.set_set, List.set_set], ?_⟩
    have ift : ∀ A B : Prop, (if true = true then A else B) = A := fun A B => if_pos rfl
    unfold tYes
    dsimp only
    first | rw [ift] | skip
    refine ⟨_, fun y H4 z => ?_, p⟩
    exact ⟨acc, z.1, z.2.1, _, z.2.2⟩
  · have e : j = xs.length := by omega
    subst e
    rw [List.drop_length] at p
    exact .inl ⟨hstop _ H p.1 (Nat.le_refl _), p.2.2⟩
theorem noStars {f : Ex → Expr → Bool} : ∀ {xs : Exs} {es : List Expr}, allM f xs es = true → es.all noStar = true
  | .nil, [], _ => rfl
  | .nil, _ :: _, h => absurd (show false = true from h) Bool.false_ne_true
  | .cons _ _, [], h => absurd (show false = true from h) Bool.false_ne_true
  | .cons a r, e :: es, h => by
    have h : (noStar e && f a e && allM f r es) = true := h
    rw [Bool.and_eq_true, Bool.and_eq_true] at h
    rw [List.all_cons, h.1.1, noStars h.2]
    rfl
theorem pa_all {f : Ex → Expr → Bool} (hf : ∀ ex e, f ex e = true → PE X e (rdE Γ X.K ex)) : ∀ {xs : Exs} {es : List Expr}, allM f xs es = true → PA X es (rdA Γ X.K xs)
  | .nil, [], _ => fun pos pins s σ H Q I h => pa_nil pos pins s σ H Q I h
  | .nil, _ :: _, h => absurd (show false = true from h) Bool.false_ne_true
  | .cons _ _, [], h => absurd (show false = true from h) Bool.false_ne_true
  | .cons a r, e :: es, h => by
    have h : (noStar e && f a e && allM f r es) = true := h
    rw [Bool.and_eq_true, Bool.and_eq_true] at h
    exact pa_cons (hf a e h.1.2) (pa_all hf h.2) (noStar_ok h.1.1 es X.env)
theorem po_opt {f : Ex → Expr → Bool} (hf : ∀ ex e, f ex e = true → PE X e (rdE Γ X.K ex)) : ∀ {xs : Exs} {o : Option Expr}, optM f xs o = true → PO X o (rdO Γ X.K xs)
  | .nil, none, _ => fun pins s σ H Q I h => po_none pins s σ H Q I h
  | .nil, some _, h => absurd (show false = true from h) Bool.false_ne_true
  | .cons _ .nil, none, h => absurd (show false = true from h) Bool.false_ne_true
  | .cons _ (.cons _ _), none, h => absurd (show false = true from h) Bool.false_ne_true
  | .cons _ (.cons _ _), some _, h => absurd (show false = true from h) Bool.false_ne_true
  | .cons a .nil, some e, h => by
    intro pins s σ H Q I hw
    have pe := hf a e h
    rw [evalPart_some]
    refine thn (pe pins s σ H _ I hw) fun u s1 ⟨x, H1, I1, r1, q1⟩ => ?_
    cases x with
    | int i =>
      obtain ⟨t, rfl⟩ := r1
      exact ⟨some i, H1, I1, .int i t, q1⟩
    | _ => exact False.elim q1
theorem bo_ok {x : V} {H : Hp} {Q : Bool → Hp → Prop} (h : rdBo x H Q) : ∃ k, x = .bl k ∧ Q k H := by
  cases x <;> first | exact ⟨_, rfl, h⟩ | exact False.elim h
theorem bo_eq : rdBo = fun x H Q => ∃ k, x = .bl k ∧ Q k H := by
  funext x H Q
  apply propext
  constructor
  · exact bo_ok
  · rintro ⟨k, rfl, h⟩
    exact h
theorem pe_ands {f : Ex → Expr → Bool} {pos : Pos} (hf : ∀ ex e, f ex e = true → PE X e (rdE Γ X.K ex)) : ∀ {xs : Exs} {es : List Expr}, boolM f xs es = true → PE X (.BoolOp .And es pos) (rdAnd Γ X.K xs)
  | .nil, _, h => absurd (show false = true from h) Bool.false_ne_true
  | .cons _ .nil, [], h => absurd (show false = true from h) Bool.false_ne_true
  | .cons _ .nil, _ :: _ :: _, h => absurd (show false = true from h) Bool.false_ne_true
  | .cons _ (.cons _ _), [], h => absurd (show false = true from h) Bool.false_ne_true
  | .cons _ (.cons _ _), [_], h => absurd (show false = true from h) Bool.false_ne_true
  | .cons a .nil, [e], h => pe_one (hf a e h)
  | .cons a (.cons b r), e :: d :: es, h => by
    have h : (f a e && boolM f (.cons b r) (d :: es)) = true := h
    rw [Bool.and_eq_true] at h
    have q := pe_and (hf a e h.1) (pe_ands hf h.2) (pos := pos)
    have e1 : rdAnd Γ X.K (.cons a (.cons b r)) = tAndV (rdE Γ X.K a) (rdAnd Γ X.K (.cons b r)) := by
      show (fun σ H Q => rdE Γ X.K a σ H fun x H1 => rdBo x H1 fun c H2 => if c = true then rdAnd Γ X.K (.cons b r) σ H2 Q else Q (.bl false) H2) = _
      rw [bo_eq]
      rfl
    rw [e1]
    exact q
theorem pe_ors {f : Ex → Expr → Bool} {pos : Pos} (hf : ∀ ex e, f ex e = true → PE X e (rdE Γ X.K ex)) : ∀ {xs : Exs} {es : List Expr}, boolM f xs es = true → PE X (.BoolOp .Or es pos) (rdOr Γ X.K xs)
  | .nil, _, h => absurd (show false = true from h) Bool.false_ne_true
  | .cons _ .nil, [], h => absurd (show false = true from h) Bool.false_ne_true
  | .cons _ .nil, _ :: _ :: _, h => absurd (show false = true from h) Bool.false_ne_true
  | .cons _ (.cons _ _), [], h => absurd (show false = true from h) Bool.false_ne_true
  | .cons _ (.cons _ _), [_], h => absurd (show false = true from h) Bool.false_ne_true
  | .cons a .nil, [e], h => pe_one (hf a e h)
  | .cons a (.cons b r), e :: d :: es, h => by
    have h : (f a e && boolM f (.cons b r) (d :: es)) = true := h
    rw [Bool.and_eq_true] at h
    have q := pe_or (hf a e h.1) (pe_ors hf h.2) (pos := pos)
    have e1 : rdOr Γ X.K (.cons a (.cons b r)) = tOrV (rdE Γ X.K a) (rdOr Γ X.K (.cons b r)) := by
      show (fun σ H Q => rdE Γ X.K a σ H fun x H1 => rdBo x H1 fun c H2 => if c = true then Q (.bl true) H2 else rdOr Γ X.K (.cons b r) σ H2 Q) = _
      rw [bo_eq]
      rfl
    rw [e1]
    exact q
theorem var_eq (i : Nat) : rdE Γ X.K (.var i) = tVar i := by
  funext σ H Q
  show (match σ[i]? with | some (some v) => Q v H | _ => False) = ∃ v, σ[i]? = some (some v) ∧ Q v H
  apply propext
  constructor
  · intro h
    split at h
    · exact ⟨_, by assumption, h⟩
    · exact h.elim
  · rintro ⟨v, e, h⟩
    rw [e]
    exact h
theorem tru_eq {K : PySem.W.Frag} {x : V} {H : Hp} {Q : Bool → Hp → Prop} (h : rdTru K x H Q) : ∃ k, TruV K x H k ∧ Q k H := by
  cases x with
  | non => exact ⟨false, rfl, h⟩
  | bl b => exact ⟨b, rfl, h⟩
  | int i => exact ⟨_, rfl, h⟩
  | str y => exact ⟨_, ⟨h.1, rfl⟩, h.2⟩
  | ref p => exact h
  | _ => exact False.elim h
theorem pt_plain {e : Expr} {t : TE} (h : PE X e t) (hp : plainT e = true) : PT X e (fun σ H Q => t σ H fun x H1 => rdTru X.K x H1 Q) := by
  intro pins s σ H Q I hw
  refine isTrue_plain (thn (h pins s σ H _ I hw) fun v s1 ⟨x, H1, I1, r1, q1⟩ => tru_ok pins s1 σ H1 x v Q I1 r1 (tru_eq q1)) (plainT_ok hp X.env _)
theorem upd_upd {H : Hp} {a : Addr} {o o' : HO} : upd (upd H a o) a o' = upd H a o' := by
  funext b
  unfold upd
  split <;> rfl
theorem mergeK_app : ∀ (r kvs : List (Key × V)), ((kvs ++ r).map (·.1)).Nodup → mergeK kvs r = kvs ++ r
  | [], kvs, _ => by simp [mergeK]
  | p :: r, kvs, h => by
    have e : putK kvs p.1 p.2 = kvs ++ [p] := by
      have hn : valV kvs p.1 = none := by
        cases ev : valV kvs p.1 with
        | none => rfl
        | some v =>
          have hm := valV_in ev
          rw [List.map_append, List.map_cons] at h
          exact absurd ((List.nodup_append.mp h).2.2 _ hm _ List.mem_cons_self rfl) (fun z => z)
      rw [putK_new _ hn]
    show mergeK (putK kvs p.1 p.2) r = _
    rw [e, mergeK_app r (kvs ++ [p]) (by simpa using h)]
    simp
theorem mergeK_nodup (kvs : List (Key × V)) (h : (kvs.map (·.1)).Nodup) : mergeK [] kvs = kvs := by
  rw [mergeK_app kvs [] (by simpa using h)]
  rfl
theorem pps_of {pos : Pos} : ∀ {kvs : List (Key × V)} {ks : List (Option Expr)} {vs : List Expr}, dctM kvs ks vs = true → ks.length = kvs.length ∧ vs.length = kvs.length ∧ ks.all (·.isSome) = true ∧ ∃ trs, PPs X pos ks vs trs ∧
    ∀ (σ : L2.St) (H : Hp) (Q : List (V × V) → Hp → Prop), Q (kvs.map fun kv => (kV kv.1, kv.2)) H → tPairs trs σ H Q
  | [], [], [], _ => ⟨rfl, rfl, rfl, [], pps_nil, fun _ _ _ h => h⟩
  | (k, v) :: r, some e :: ks, x :: vs, h => by
    have h : (decide (keyE e = some k) && (match vConst x with | some c => decide (constV c = some v) | none => false) && dctM r ks vs) = true := h
    rw [Bool.and_eq_true, Bool.and_eq_true, decide_eq_true_eq] at h
    obtain ⟨⟨h1, h2⟩, h3⟩ := h
    obtain ⟨l1, l2, hall, trs, pp, ht⟩ := pps_of (pos := pos) h3
    have pk : PE X e (tC (kV k)) := by
      unfold keyE at h1
      split at h1
      · cases (Option.some.inj h1); exact pe_int
      · cases (Option.some.inj h1); exact pe_str
      · cases h1
    have pv' : PE X x (tC v) := by
      split at h2
      · next c hx =>
        obtain ⟨kk, p, rfl⟩ := vConst_ok hx
        simp only [decide_eq_true_eq] at h2
        cases c <;> first | (cases h2; done) | (cases (Option.some.inj h2); first | exact pe_non | exact pe_bl | exact pe_int | exact pe_str)
      · cases h2
    exact ⟨by rw [List.length_cons, List.length_cons, l1], by rw [List.length_cons, List.length_cons, l2], by rw [List.all_cons, hall]; rfl, _, pps_cons pk pv' pp, fun σ H Q hq => ht σ H _ hq⟩
  | [], [], _ :: _, h => absurd (show false = true from h) Bool.false_ne_true
  | [], _ :: _, _, h => absurd (show false = true from h) Bool.false_ne_true
  | _ :: _, [], _, h => absurd (show false = true from h) Bool.false_ne_true
  | _ :: _, none :: _, _, h => absurd (show false = true from h) Bool.false_ne_true
  | _ :: _, some _ :: _, [], h => absurd (show false = true from h) Bool.false_ne_true
theorem keyOf_ok {y : V} {c : Key} (h : keyOf y = some c) : y = kV c := by
  cases y <;> first | (cases h; done) | (cases (Option.some.inj h); rfl)
theorem lc_parts {n : Nat} (G : Good Γ top X) (ih : ∀ {X : Cx} {top : Bool} (G : Good Γ top X) (ex : Ex) (e : Expr), mE Γ n X.env.scope ex e = true → PE X e (rdE Γ X.K ex)) {i : Nat} {k : Ik} {src elt : Ex} {x t it : Expr} {scope : Scope}
    (h : (mN Γ false (relS scope X.env.scope) i t && (match vName t with | some y => blkC Γ.N X.env.scope scope [(y, i)] | none => false) && noSet it && lcM (mE Γ n X.env.scope) Γ.bl X.env.scope k src it && mE Γ n (relS scope X.env.scope) elt x) = true) :
    ∃ (y : Str) (py : Pos) (wi : TI) (te : TE), t = .Name y py ∧ PI X (.Name y py) it wi ∧ BlkOk X.N X.env.scope scope [(y, i)] ∧
      (∀ (s : Shared) (H : Hp) (C : Addr) (cl : List (Str × Addr)) (fp : List Addr), PG (X.blk s H scope (compEnvC scope cl C X.env) fp) (.Name y py) (gName i)) ∧
      (∀ (s : Shared) (H : Hp) (C : Addr) (cl : List (Str × Addr)) (fp : List Addr), PE (X.blk s H scope (compEnvC scope cl C X.env) fp) x te) ∧ (∀ v, foldedSetIterable it X.env v = pure v) ∧
      ∀ (σ : L2.St) (H : Hp) (Q : VK), rdE Γ X.K (.lc i k src elt) σ H Q → tLc wi (gName i) tYes te [i] σ H Q := by
  simp only [Bool.and_eq_true] at h
  obtain ⟨⟨⟨⟨h1, h2⟩, h3⟩, h4⟩, h5⟩ := h
  split at h2
  · next y hy =>
    obtain ⟨py, rfl⟩ := vName_ok hy
    have ok : BlkOk X.N X.env.scope scope [(y, i)] := blkOk_by (by rw [G.hN]; exact h2)
    have hg : ∀ (s : Shared) (H : Hp) (C : Addr) (cl : List (Str × Addr)) (fp : List Addr), PG (X.blk s H scope (compEnvC scope cl C X.env) fp) (.Name y py) (gName i) := fun s H C cl fp => by
      have G' : Good Γ false (X.blk s H scope (compEnvC scope cl C X.env) fp) := G.blk
      obtain ⟨x', p', e', hi, hx', hf⟩ := mN_ok G' (i := i) (e := .Name y py) h1
      cases e'
      exact pg_name (by rw [G'.hN]; exact G.nd) hi hx' hf
    have he : ∀ (s : Shared) (H : Hp) (C : Addr) (cl : List (Str × Addr)) (fp : List Addr), PE (X.blk s H scope (compEnvC scope cl C X.env) fp) x (fun σ H Q => ∃ Q', (∀ v H, Q' v H → Q v H) ∧ rdE Γ X.K elt σ H Q') := fun s H C cl fp => by
      have G' : Good Γ false (X.blk s H scope (compEnvC scope cl C X.env) fp) := G.blk
      exact PE.mono (ih G' elt x h5)
    cases k with
    | lst =>
      refine ⟨y, py, _, _, rfl, pi_list (PE.mono (ih G src it h4)), ok, hg, he, noSet_fold h3 X.env, fun σ H Q hw => ⟨_, fun v H1 z => ?_, hw⟩⟩
      cases v with
      | ref a =>
        obtain ⟨xs, hs, z⟩ := z
        refine ⟨a, rfl, ⟨xs, hs⟩, fun D hD => lc_of (xs := xs) (chk := fun H => SqL X.K H a xs) (fun j H hc hj => ?_) (fun j H hc hj => ⟨xs, hc, hj⟩) (z D hD)⟩
        exact ⟨⟨xs, xs[j], hc, List.getElem?_eq_getElem hj⟩, fun x H' y => ⟨y.1, y.2 xs hc⟩⟩
      | _ => exact False.elim z
    | tup =>
      refine ⟨y, py, _, _, rfl, pi_tup (PE.mono (ih G src it h4)), ok, hg, he, noSet_fold h3 X.env, fun σ H Q hw => ⟨_, fun v H1 z => ?_, hw⟩⟩
      cases v with
      | ref a =>
        obtain ⟨xs, hs, z⟩ := z
        refine ⟨a, rfl, ⟨xs, hs⟩, fun D hD => lc_of (xs := xs) (chk := fun H => SqT X.K H a xs) (fun j H hc hj => ?_) (fun j H hc hj => ⟨xs, hc, hj⟩) (z D hD)⟩
        exact ⟨⟨xs, xs[j], hc, List.getElem?_eq_getElem hj⟩, fun x H' y => ⟨y.1, y.2 xs hc⟩⟩
      | _ => exact False.elim z
    | str =>
      refine ⟨y, py, _, _, rfl, pi_str (PE.mono (ih G src it h4)), ok, hg, he, noSet_fold h3 X.env, fun σ H Q hw => ⟨_, fun v H1 z => ?_, hw⟩⟩
      cases v with
      | str a =>
        have z : ∀ D, H1 D = none → _ := z
        have hl : (signsV a).length = a.cps.size := by simp [signsV]
        refine ⟨a, rfl, fun D hD => lc_of (xs := signsV a) (chk := fun _ => True) (fun j H hc hj => ?_) (fun j H hc hj => by rw [hl] at hj; exact hj) (z D hD)⟩
        rw [hl] at hj
        refine ⟨hj, fun x H' y => ?_⟩
        obtain ⟨e1, c, hc', e2⟩ := y
        refine ⟨e1, ?_⟩
        rw [e2]
        simp [signsV, hc']
      | _ => exact False.elim z
    | rng1 =>
      simp only [lcM] at h4
      split at h4
      · next w hw' =>
        obtain ⟨p1, p2, rfl⟩ := callOf_ok hw'
        simp only [Bool.and_eq_true, decide_eq_true_eq] at h4
        obtain ⟨⟨⟨k1, k2⟩, k3⟩, k4⟩ := h4
        have s1 := noStar_ok k3 [] X.env
        refine ⟨y, py, _, _, rfl, pi_range1 (p := p1) (pos := p2) (show Gl X "range" from glB_ok k1) (G.bl _ k2) (PA.mono (pa_cons (ih G src w k4) pa_nil s1)) s1, ok, hg, he, noSet_fold rfl X.env, fun σ H Q hw => ⟨fun vs H1 => (match vs with | [v] => lcSrc X.K .rng1 v H1 fun chk xs => ∀ D, H1 D = none → lcL chk (rdE Γ X.K elt) (σ.set i none) i D xs [] (upd H1 D (.lst [])) (Q (.ref D)) | _ => False), fun vs H1 z => ?_, hw⟩⟩
        dsimp only at z
        split at z
        · next v =>
          cases v with
          | int m =>
            obtain ⟨hb, z⟩ := z
            refine ⟨m, rfl, hb.1, hb.2, fun D hD => lc_of (xs := rngV 0 m.toNat) (chk := fun _ => True) (fun j H hc hj => ?_) (fun j H hc hj => by rw [rngV_len] at hj; exact hj) (z D hD)⟩
            rw [rngV_len] at hj
            refine ⟨hj, fun x H' y => ⟨y.1, ?_⟩⟩
            rw [y.2]
            simp [rngV, hj]
          | _ => exact False.elim z
        · exact z.elim
      · cases h4
    | _ => exact absurd (show false = true from h4) Bool.false_ne_true
  · cases h2
theorem el_ok {n : Nat} (G : Good Γ top X) (ih : ∀ k, k ≤ n → ∀ (ex : Ex) (e : Expr), mE Γ k X.env.scope ex e = true → PE X e (rdE Γ X.K ex)) {c : Ex} {t : Expr} (h1 : elM (mE Γ n X.env.scope) c t = true) :
    PT X t (fun σ H Q => rdE Γ X.K c σ H fun x H1 => rdBo x H1 Q) ∧ (isChnX c = false → PT X t (fun σ H Q => rdE Γ X.K c σ H fun x H1 => rdTru X.K x H1 Q)) := by
  unfold elM at h1
  rw [Bool.and_eq_true] at h1
  obtain ⟨hh, hc⟩ := h1
  have pc := ih n (Nat.le_refl n) c t hh
  have bt : ∀ {x : V} {H : Hp} {Q : Bool → Hp → Prop}, rdBo x H Q → rdTru X.K x H Q := fun {x H Q} h => by
    cases x <;> first | exact h | exact False.elim h
  rw [Bool.or_eq_true, Bool.or_eq_true] at hc
  rcases hc with (hc | hc) | hc
  · cases c with
    | cmp op a b =>
      cases n with
      | zero => exact absurd (show false = true from hh) Bool.false_ne_true
      | succ n =>
        simp only [mE] at hh
        split at hh
        · next x o y hx =>
          obtain ⟨p, rfl⟩ := vCmp_ok hx
          simp only [Bool.and_eq_true, decide_eq_true_eq] at hh
          have k2 := hh.1.1.2
          have k3 := hh.1.2
          have k4 := hh.2
          rw [hh.1.1.1]
          have pa := ih n (Nat.le_succ n) a x k3
          have pb := ih n (Nat.le_succ n) b y k4
          constructor
          · intro pins s σ H Q I hw
            refine wpAny_isTrue_Compare1 (thn (pa pins s σ H _ I hw) fun v s1 ⟨x, H1, I1, r1, q1⟩ => thn (pb pins s1 σ H1 _ I1 q1) fun u s2 ⟨y, H2, I2, r2, q2⟩ =>
              thn (cmp_ok G.un op pins s2 σ H2 x y v u _ I2 r1 r2 q2) fun c s3 ⟨z, H3, I3, r3, q3⟩ => tru_ok pins s3 σ H3 z c Q I3 r3 (tru_eq (bt q3))) (noSet_mark k2)
          · intro _ pins s σ H Q I hw
            refine wpAny_isTrue_Compare1 (thn (pa pins s σ H _ I hw) fun v s1 ⟨x, H1, I1, r1, q1⟩ => thn (pb pins s1 σ H1 _ I1 q1) fun u s2 ⟨y, H2, I2, r2, q2⟩ =>
              thn (cmp_ok G.un op pins s2 σ H2 x y v u _ I2 r1 r2 q2) fun c s3 ⟨z, H3, I3, r3, q3⟩ => tru_ok pins s3 σ H3 z c Q I3 r3 (tru_eq q3)) (noSet_mark k2)
        · cases hh
    | _ => exact absurd (show false = true from hc) Bool.false_ne_true
  · cases c with
    | chn o p a b c =>
      refine ⟨?_, fun z => absurd z (by intro e; cases e)⟩
      cases n with
      | zero => exact absurd (show false = true from hh) Bool.false_ne_true
      | succ n =>
        simp only [mE] at hh
        split at hh
        · next x o' p' y z hx =>
          obtain ⟨ps, rfl⟩ := vCmp_ok hx
          simp only [Bool.and_eq_true, decide_eq_true_eq] at hh
          obtain ⟨⟨⟨⟨⟨k1, k2⟩, k3⟩, k4⟩, k5⟩, k6⟩ := hh
          rw [k1, k2]
          have q := pt_chain (X := X) (pos := ps) (cmp_ok G.un o) (cmp_ok G.un p) (ih n (Nat.le_succ n) a x k4) (ih n (Nat.le_succ n) b y k5) (ih n (Nat.le_succ n) c z k6) (show behindInMarks p.py z = false from noSet_mark k3)
          have e1 : (fun (σ : L2.St) (H : Hp) (Q : Bool → Hp → Prop) => rdE Γ X.K (.chn o p a b c) σ H fun x H1 => rdBo x H1 Q) = tTest (tChain (rdC X.K o) (rdC X.K p) (rdE Γ X.K a) (rdE Γ X.K b) (rdE Γ X.K c)) := by
            show (fun (σ : L2.St) (H : Hp) (Q : Bool → Hp → Prop) => rdE Γ X.K a σ H fun x H1 => rdE Γ X.K b σ H1 fun y H2 => rdC X.K o x y H2 fun z H3 => rdBo z H3 fun k H4 =>
              if k = true then rdE Γ X.K c σ H4 fun w H5 => rdC X.K p y w H5 (fun x H1 => rdBo x H1 Q) else rdBo (.bl false) H4 Q) = _
            rw [bo_eq]
            rfl
          rw [e1]
          exact q
        · cases hh
    | _ => exact absurd (show false = true from hc) Bool.false_ne_true
  · rw [Bool.and_eq_true] at hc
    refine ⟨?_, fun _ => pt_plain pc hc.2⟩
    intro pins s σ H Q I hw
    exact isTrue_plain (thn (pc pins s σ H _ I hw) fun v s1 ⟨x, H1, I1, r1, q1⟩ => tru_ok pins s1 σ H1 x v Q I1 r1 (tru_eq (bt q1))) (plainT_ok hc.2 X.env _)
theorem pw_andB {f : Ex → Expr → Bool} {pos : Pos} (hf : ∀ ex e, f ex e = true → PT X e (fun σ H Q => rdE Γ X.K ex σ H fun x H1 => rdBo x H1 Q)) : ∀ {xs : Exs} {es : List Expr}, boolM f xs es = true → PW X (.BoolOp .And es pos) (fun σ H Q => rdAnd Γ X.K xs σ H fun x H1 => rdBo x H1 Q)
  | .nil, _, h => absurd (show false = true from h) Bool.false_ne_true
  | .cons _ .nil, [], h => absurd (show false = true from h) Bool.false_ne_true
  | .cons _ .nil, _ :: _ :: _, h => absurd (show false = true from h) Bool.false_ne_true
  | .cons _ (.cons _ _), [], h => absurd (show false = true from h) Bool.false_ne_true
  | .cons _ (.cons _ _), [_], h => absurd (show false = true from h) Bool.false_ne_true
  | .cons a .nil, [e], h => pw_and1 (hf a e h)
  | .cons a (.cons b r), e :: d :: es, h => by
    have h : (f a e && boolM f (.cons b r) (d :: es)) = true := h
    rw [Bool.and_eq_true] at h
    exact pw_and (hf a e h.1) (pw_andB hf h.2)
theorem pw_orB {f : Ex → Expr → Bool} {pos : Pos} (hf : ∀ ex e, f ex e = true → PT X e (fun σ H Q => rdE Γ X.K ex σ H fun x H1 => rdBo x H1 Q)) : ∀ {xs : Exs} {es : List Expr}, boolM f xs es = true → PW X (.BoolOp .Or es pos) (fun σ H Q => rdOr Γ X.K xs σ H fun x H1 => rdBo x H1 Q)
  | .nil, _, h => absurd (show false = true from h) Bool.false_ne_true
  | .cons _ .nil, [], h => absurd (show false = true from h) Bool.false_ne_true
  | .cons _ .nil, _ :: _ :: _, h => absurd (show false = true from h) Bool.false_ne_true
  | .cons _ (.cons _ _), [], h => absurd (show false = true from h) Bool.false_ne_true
  | .cons _ (.cons _ _), [_], h => absurd (show false = true from h) Bool.false_ne_true
  | .cons a .nil, [e], h => pw_or1 (hf a e h)
  | .cons a (.cons b r), e :: d :: es, h => by
    have h : (f a e && boolM f (.cons b r) (d :: es)) = true := h
    rw [Bool.and_eq_true] at h
    exact pw_or (hf a e h.1) (pw_orB hf h.2)
theorem test_ok {n m : Nat} (G : Good Γ top X) (ih : ∀ k, k ≤ n → ∀ (ex : Ex) (e : Expr), mE Γ k X.env.scope ex e = true → PE X e (rdE Γ X.K ex)) (hm : m ≤ n) {c : Ex} {t : Expr} (h1 : testM (mE Γ m X.env.scope) c t = true) :
    PT X t (fun σ H Q => rdE Γ X.K c σ H fun x H1 => tstX X.K c x H1 Q) := by
  have el := fun (c : Ex) (t : Expr) (h : elM (mE Γ m X.env.scope) c t = true) => el_ok (n := m) G (fun k hk => ih k (Nat.le_trans hk hm)) h
  cases c with
  | and es =>
    simp only [testM] at h1
    split at h1
    · next xs hx =>
      obtain ⟨p, rfl⟩ := vBool_ok hx
      exact PW.pt (pw_andB (fun ex e h => (el ex e h).1) h1)
    · cases h1
  | or es =>
    simp only [testM] at h1
    split at h1
    · next xs hx =>
      obtain ⟨p, rfl⟩ := vBool_ok hx
      exact PW.pt (pw_orB (fun ex e h => (el ex e h).1) h1)
    · cases h1
  | chn o p a b c => exact (el _ t h1).1
  | _ => exact (el _ t h1).2 rfl
theorem sound_E : ∀ (n : Nat) {X : Cx} {top : Bool} (G : Good Γ top X) (ex : Ex) (e : Expr), mE Γ n X.env.scope ex e = true → PE X e (rdE Γ X.K ex)
  | 0, _, _, _, _, _, h => absurd (show false = true from h) Bool.false_ne_true
  | n + 1, X, top, G, ex, e, h => by
    have ih := sound_E n G
    cases ex with
    | var i =>
      simp only [mE] at h
      split at h
      · next x hx =>
        obtain ⟨p, rfl⟩ := vName_ok hx
        simp only [Bool.and_eq_true, decide_eq_true_eq] at h
        obtain ⟨⟨h1, h2⟩, h3⟩ := h
        obtain ⟨n1, n2, n3⟩ := okN_ok h3
        rw [var_eq]
        exact pe_var (by rw [G.hN]; exact h1) (visB_ok h2) n1 n2
      · cases h
    | cst v =>
      simp only [mE] at h
      split at h
      · next c hx =>
        obtain ⟨k, p, rfl⟩ := vConst_ok hx
        simp only [decide_eq_true_eq] at h
        cases c <;> first | (cases h; done) | (cases (Option.some.inj h); first | exact pe_non | exact pe_bl | exact pe_int | exact pe_str)
      · cases h
    | glb k =>
      simp only [mE] at h
      split at h
      · next x g hx hg =>
        obtain ⟨p, rfl⟩ := vName_ok hx
        simp only [Bool.and_eq_true, decide_eq_true_eq] at h
        obtain ⟨⟨h1, h2⟩, h3⟩ := h
        subst h1
        obtain ⟨n1, n2, n3⟩ := okN_ok h3
        obtain ⟨u, hm, r⟩ := G.gl k g hg
        have q := pe_glob (X := X) (pos := p) (show Gl X g.1 from glB_ok h2) hm r n1
        intro pins s σ H Q I hw
        refine q pins s σ H Q I ?_
        have hw : (match Γ.gl[k]? with | some g => Q g.2 H | none => False) := hw
        rw [hg] at hw
        exact hw
      · cases h
    | ty t =>
      simp only [mE] at h
      split at h
      · next x hx =>
        obtain ⟨p, rfl⟩ := vName_ok hx
        simp only [Bool.and_eq_true, decide_eq_true_eq] at h
        obtain ⟨⟨⟨h1, h2⟩, h4⟩, h3⟩ := h
        subst h1
        obtain ⟨n1, n2, n3⟩ := okN_ok h3
        exact pe_bltn (show Gl X _ from glB_ok h2) (G.bl _ h4) (ty_boot t) rfl n3 n1
      · cases h
    | bin op a b =>
      simp only [mE] at h
      split at h
      · next x o y hx =>
        obtain ⟨p, rfl⟩ := vBin_ok hx
        simp only [Bool.and_eq_true, decide_eq_true_eq] at h
        obtain ⟨⟨h1, h2⟩, h3⟩ := h
        subst h1
        exact pe_op (bin_ok op) (ih a x h2) (ih b y h3)
      · cases h
    | neg a =>
      simp only [mE] at h
      split at h
      · next x hx =>
        obtain ⟨p, rfl⟩ := vUn_ok hx
        have q := pe_un (X := X) (pos := p) un_neg (ih a x h)
        intro pins s σ H Q I hw
        refine q pins s σ H Q I ?_
        have e1 : (fun (x : V) (H1 : Hp) => match x with | .int i => Q (.int (-i)) H1 | _ => False) = fun x H1 => ∃ i, x = .int i ∧ Q (.int (-i)) H1 := by
          funext x H1
          apply propext
          constructor
          · intro h
            cases x <;> first | exact ⟨_, rfl, h⟩ | exact False.elim h
          · rintro ⟨i, rfl, h⟩
            exact h
        have hw : rdE Γ X.K a σ H (fun (x : V) (H1 : Hp) => match x with | .int i => Q (.int (-i)) H1 | _ => False) := hw
        rw [e1] at hw
        exact hw
      · cases h
    | cmp op a b =>
      simp only [mE] at h
      split at h
      · next x o y hx =>
        obtain ⟨p, rfl⟩ := vCmp_ok hx
        simp only [Bool.and_eq_true, decide_eq_true_eq] at h
        obtain ⟨⟨⟨h1, h2⟩, h3⟩, h4⟩ := h
        subst h1
        exact pe_cmpR (cmp_ok G.un op) (ih a x h3) (ih b y h4) (noSet_mark h2)
      · cases h
    | chn o p a b c =>
      simp only [mE] at h
      split at h
      · next x o' p' y z hx =>
        obtain ⟨ps, rfl⟩ := vCmp_ok hx
        simp only [Bool.and_eq_true, decide_eq_true_eq] at h
        obtain ⟨⟨⟨⟨⟨h1, h2⟩, h3⟩, h4⟩, h5⟩, h6⟩ := h
        subst h1 h2
        have q := pe_chain (X := X) (pos := ps) (cmp_ok G.un o) (cmp_ok G.un p) (ih a x h4) (ih b y h5) (ih c z h6) (show behindInMarks p.py z = false from noSet_mark h3)
        have e1 : rdE Γ X.K (.chn o p a b c) = tChain (rdC X.K o) (rdC X.K p) (rdE Γ X.K a) (rdE Γ X.K b) (rdE Γ X.K c) := by
          show (fun σ H Q => rdE Γ X.K a σ H fun x H1 => rdE Γ X.K b σ H1 fun y H2 => rdC X.K o x y H2 fun z H3 => rdBo z H3 fun k H4 =>
            if k = true then rdE Γ X.K c σ H4 fun w H5 => rdC X.K p y w H5 Q else Q (.bl false) H4) = _
          rw [bo_eq]
          rfl
        rw [e1]
        exact q
      · cases h
    | and es =>
      simp only [mE] at h
      split at h
      · next xs hx =>
        obtain ⟨p, rfl⟩ := vBool_ok hx
        exact pe_ands ih h
      · cases h
    | or es =>
      simp only [mE] at h
      split at h
      · next xs hx =>
        obtain ⟨p, rfl⟩ := vBool_ok hx
        exact pe_ors ih h
      · cases h
    | not a =>
      simp only [mE] at h
      split at h
      · next x hx =>
        obtain ⟨p, rfl⟩ := vUn_ok hx
        have q := pe_not (X := X) (pos := p) (ih a x h)
        have e1 : rdE Γ X.K (.not a) = tNotV (rdE Γ X.K a) := by
          show (fun (σ : L2.St) (H : Hp) (Q : VK) => rdE Γ X.K a σ H fun x H1 => rdBo x H1 fun c H2 => Q (.bl (!c)) H2) = _
          rw [bo_eq]
          rfl
        rw [e1]
        exact q
      · cases h
    | ite c a b =>
      simp only [mE] at h
      split at h
      · next t x y hx =>
        obtain ⟨p, rfl⟩ := vIf_ok hx
        simp only [Bool.and_eq_true] at h
        obtain ⟨⟨h1, h2⟩, h3⟩ := h
        have pt : PT X t (fun σ H Q => rdE Γ X.K c σ H fun x H1 => tstX X.K c x H1 Q) := test_ok G (fun k hk => sound_E k G) (Nat.le_refl n) h1
        exact pe_ifExp pt (ih a x h2) (ih b y h3)
      · cases h
    | idx a b =>
      simp only [mE] at h
      split at h
      · next x y hx =>
        obtain ⟨p, rfl⟩ := vSub_ok hx
        simp only [Bool.and_eq_true] at h
        exact pe_ix idx_ok (ih a x h.1.2) (ih b y h.2) (noSlice_ix h.1.1)
      · cases h
    | slc a lo hi =>
      simp only [mE] at h
      split at h
      · next x y hx =>
        obtain ⟨p, rfl⟩ := vSub_ok hx
        split at h
        · next l u hy =>
          obtain ⟨p2, rfl⟩ := vSlice_ok hy
          simp only [Bool.and_eq_true] at h
          exact pe_slice slc_ok (ih a x h.1.1) (po_opt ih h.1.2) (po_opt ih h.2)
        · cases h
      · cases h
    | call k es =>
      simp only [mE] at h
      split at h
      · next f x xs p hx =>
        have := vCall_ok hx
        subst this
        split at h
        · next y g hy hg =>
          obtain ⟨p2, rfl⟩ := vName_ok hy
          simp only [Bool.and_eq_true, decide_eq_true_eq] at h
          obtain ⟨⟨⟨h1, h2⟩, h3⟩, h4⟩ := h
          subst h1
          obtain ⟨n1, n2, n3⟩ := okN_ok h3
          obtain ⟨f, fd, ps, m, F, hr, hm, hk, hb⟩ := G.fn k g hg
          have ns := noStars h4
          rw [List.all_cons, Bool.and_eq_true] at ns
          have q := pe_call (X := X) (p := p2) (pos := p) F hr (show Gl X g.1 from glB_ok h2) hm hk hb .nil pass0 (pa_all ih h4) n1 (noStar_ok ns.1 xs X.env) (stars_any ns.2)
          intro pins s σ H Q I hw
          refine q pins s σ H Q I ?_
          have e1 : (fun (vs : List V) (H1 : Hp) => match Γ.fn[k]? with | some f => f.2 vs H1 Q E0 | none => False) = fun vs H1 => g.2 (vs ++ []) H1 Q E0 := by
            funext vs H1
            rw [hg, List.append_nil]
          have hw : rdA Γ X.K es σ H (fun (vs : List V) (H1 : Hp) => match Γ.fn[k]? with | some f => f.2 vs H1 Q E0 | none => False) := hw
          rw [e1] at hw
          exact hw
        · cases h
      · cases h
    | blt b es =>
      simp only [mE] at h
      split at h
      · next f x xs p hx =>
        have := vCall_ok hx
        subst this
        split at h
        · next y hy =>
          obtain ⟨p2, rfl⟩ := vName_ok hy
          simp only [Bool.and_eq_true, decide_eq_true_eq] at h
          obtain ⟨⟨⟨⟨h1, h2⟩, h5⟩, h3⟩, h4⟩ := h
          subst h1
          obtain ⟨n1, n2, n3⟩ := okN_ok h3
          have ns := noStars h4
          rw [List.all_cons, Bool.and_eq_true] at ns
          exact pe_callB (X := X) (p := p2) (pos := p) (blt_ok G.calm b) (show Gl X _ from glB_ok h2) (G.bl _ h5) (bl_boot b) (pa_all ih h4) n3 n1 (noStar_ok ns.1 xs X.env) (stars_any ns.2)
        · cases h
      · cases h
    | btc b a =>
      simp only [mE] at h
      split at h
      · next f x p hx =>
        have := vCall_ok hx
        subst this
        split at h
        · next y hy =>
          obtain ⟨p2, rfl⟩ := vName_ok hy
          simp only [Bool.and_eq_true, decide_eq_true_eq] at h
          obtain ⟨⟨⟨⟨⟨h1, h2⟩, h5⟩, h3⟩, h6⟩, h4⟩ := h
          subst h1
          obtain ⟨n1, n2, n3⟩ := okN_ok h3
          exact pe_callTy (X := X) (p := p2) (pos := p) (btc_ok b) (show Gl X _ from glB_ok h2) (G.bl _ h5) (bt_boot b) (pa_cons (ih a x h4) pa_nil (noStar_ok h6 [] X.env)) n3 n1 (noStar_ok h6 [] X.env) rfl
        · cases h
      · cases h
    | m1 m o a =>
      simp only [mE] at h
      split at h
      · next f x p hx =>
        have := vCall_ok hx
        subst this
        split at h
        · next y nm q hy =>
          have := vAttr_ok hy
          subst this
          simp only [Bool.and_eq_true, decide_eq_true_eq] at h
          obtain ⟨⟨⟨⟨⟨h1, h2⟩, h3⟩, h4⟩, h5⟩, h6⟩ := h
          subst h1
          obtain ⟨id, sl, ty, mt⟩ := m1_ok (X := X) m
          have q := pe_m1 (apos := q) (pos := p) sl ty mt (ih o y h5) (ih a x h6) (noStar_ok h3 [] X.env) (noSuper_ok h2 _ _ _) h4
          intro pins s σ H Q I hw
          refine q pins s σ H Q I ?_
          have e1 : (fun (x1 : V) (H1 : Hp) => match x1 with | .str z => rdE Γ X.K a σ H1 fun y H2 => rdM1 X.K m (.str z) y H2 Q | _ => False) =
              fun x1 H1 => (∃ z, x1 = .str z) ∧ rdE Γ X.K a σ H1 fun y H2 => rdM1 X.K m x1 y H2 Q := by
            funext x1 H1
            apply propext
            constructor
            · intro h
              cases x1 <;> first | exact ⟨⟨_, rfl⟩, h⟩ | exact False.elim h
            · rintro ⟨⟨z, rfl⟩, h⟩
              exact h
          have hw : rdE Γ X.K o σ H (fun (x1 : V) (H1 : Hp) => match x1 with | .str z => rdE Γ X.K a σ H1 fun y H2 => rdM1 X.K m (.str z) y H2 Q | _ => False) := hw
          rw [e1] at hw
          exact hw
        · cases h
      · cases h
    | lst es =>
      simp only [mE] at h
      split at h
      · next xs hx =>
        obtain ⟨p, rfl⟩ := vList_ok hx
        exact pe_lst (pa_all ih h)
      · cases h
    | tup es =>
      simp only [mE] at h
      split at h
      · next xs hx =>
        obtain ⟨k, p, rfl⟩ := vTup_ok hx
        exact pe_tup (pa_all ih h)
      · cases h
    | isi a t =>
      simp only [mE] at h
      split at h
      · next x y hx =>
        obtain ⟨p, p2, rfl⟩ := callOf_ok hx
        split at h
        · next z hz =>
          obtain ⟨p3, rfl⟩ := vName_ok hz
          simp only [Bool.and_eq_true, decide_eq_true_eq] at h
          obtain ⟨⟨⟨⟨⟨⟨⟨h1, h2⟩, h3⟩, h4⟩, h5⟩, h6⟩, h7⟩, h8⟩ := h
          subst h1
          obtain ⟨n1, n2, n3⟩ := okN_ok h4
          have py : PE X (.Name (Str.ofString t.nm) p3) (tC (.ty t.nm)) := pe_bltn (show Gl X _ from glB_ok h2) (G.bl _ h3) (ty_boot t) rfl n3 n1
          have s2 : starEach [Expr.Name (Str.ofString t.nm) p3] X.env = [(false, eval (.Name (Str.ofString t.nm) p3) X.env)] := rfl
          have q := pe_callB (X := X) (p := p) (pos := p2) (isi2_ok (t := t)) (show Gl X _ from glB_ok h5) (G.bl _ h6) (bl_boot .isi) (PA.mono (pa_cons (ih a x h8) (pa_cons py pa_nil s2) (noStar_ok h7 _ X.env))) (by decide +kernel) (by decide +kernel) (noStar_ok h7 _ X.env) (by rw [s2]; rfl)
          intro pins s σ H Q I hw
          refine q pins s σ H Q I ⟨fun vs H1 => (match vs with | [x, .ty u] => u = t.nm ∧ rdIsi X.K x t H1 Q | _ => False), fun vs H1 z => z, ?_⟩
          refine (show rdE Γ X.K a σ H (fun x H1 => t.nm = t.nm ∧ rdIsi X.K x t H1 Q) from ?_)
          have e1 : (fun (x : V) (H1 : Hp) => t.nm = t.nm ∧ rdIsi X.K x t H1 Q) = fun x H1 => rdIsi X.K x t H1 Q := by
            funext x H1
            simp
          rw [e1]
          exact hw
        · cases h
      · cases h
    | lc i k src elt =>
      simp only [mE] at h
      split at h
      · next x t it scope hx =>
        obtain ⟨p, rfl⟩ := vLc_ok hx
        obtain ⟨y, py, wi, te, rfl, hi, ok, hg, he, hs, imp⟩ := lc_parts G (sound_E n) h
        intro pins s σ H Q I hw
        exact pe_lc (pos := p) (own := [(y, i)]) G.calm (by rw [G.hN]; exact G.nd) hi ok hg (fun _ _ _ _ _ => pts_nil) he hs pins s σ H Q I (imp σ H Q hw)
      · cases h
    | dct kvs =>
      simp only [mE] at h
      split at h
      · next ks vs hx =>
        obtain ⟨p, rfl⟩ := vDict_ok hx
        simp only [Bool.and_eq_true, decide_eq_true_eq] at h
        obtain ⟨⟨h1, h2⟩, h3⟩ := h
        cases kvs with
        | nil =>
          have e : ks = [] ∧ vs = [] := by
            cases ks <;> cases vs <;> first | exact ⟨rfl, rfl⟩ | exact absurd (show false = true from h1) Bool.false_ne_true
          obtain ⟨rfl, rfl⟩ := e
          exact pe_dnewK
        | cons kv r =>
          obtain ⟨l1, l2, hall, trs, pp, ht⟩ := pps_of (X := X) (pos := p) h1
          have q := pe_disp (pos := p) pp hall (by rw [l1, l2]) (by intro e; rw [e] at l1; simp at l1) (by rw [l1]; exact h3)
          intro pins s σ H Q I hw
          refine q pins s σ H Q I fun d hd => ht σ _ _ ⟨upd_same, kv :: r, rfl, h3, ?_⟩
          rw [mergeK_nodup _ h2, upd_upd]
          exact hw d hd
      · cases h
    | dgt o k =>
      simp only [mE] at h
      split at h
      · next x y hx =>
        obtain ⟨p, rfl⟩ := vSub_ok hx
        simp only [Bool.and_eq_true] at h
        have q := pe_dget (pos := p) (Nat.lt_of_le_of_lt (Nat.add_le_add_left (by decide : 1 ≤ 64) _) G.un) (PE.mono (ih o x h.1.2)) (PE.mono (ih k y h.2)) (noSlice_ix h.1.1)
        intro pins s σ H Q I hw
        refine q pins s σ H Q I ⟨_, fun x H1 z => ⟨_, fun y H2 z => ?_, z⟩, hw⟩
        cases x with
        | ref a =>
          cases hc : keyOf y with
          | none => rw [hc] at z; exact z.elim
          | some c =>
            rw [hc] at z
            obtain ⟨kvs, v, h1, h2, z⟩ := z
            refine ⟨_, v, rfl, ?_, z⟩
            rw [keyOf_ok hc, ← h2]
            exact DGet.k h1
        | _ => exact False.elim z
      · cases h
    | dgt2 o k d =>
      simp only [mE] at h
      split at h
      · next f x z' p hx =>
        have := vCall_ok hx
        subst this
        split at h
        · next y nm q hy =>
          have := vAttr_ok hy
          subst this
          simp only [Bool.and_eq_true, decide_eq_true_eq] at h
          obtain ⟨⟨⟨⟨⟨⟨⟨h1, h2⟩, h3⟩, h4⟩, h5⟩, h6⟩, h7⟩, h8⟩ := h
          subst h1
          have s1 := noStar_ok h4 [] X.env
          have s2 := noStar_ok h3 [z'] X.env
          have m : M2 X y "get" q x z' p := ⟨noSuper_ok h2 _ _ _, by rw [s2, s1]; rfl, h5, by rw [s2, s1]; rfl⟩
          have q := pe_dget2 (Nat.lt_of_le_of_lt (Nat.add_le_add_left (by decide : 1 ≤ 64) _) G.un) (PE.mono (ih o y h6)) (PE.mono (ih k x h7)) (PE.mono (ih d z' h8)) m
          intro pins s σ H Q I hw
          refine q pins s σ H Q I ⟨_, fun x H1 z => ?_, hw⟩
          split at z
          · next a =>
            obtain ⟨⟨kvs, hk⟩, z⟩ := z
            refine ⟨a, rfl, .inl ⟨kvs, .inl hk⟩, _, fun y H2 z => ⟨_, fun w H3 z => ?_, z⟩, z⟩
            split at z
            · next c hc =>
              obtain ⟨kvs, h1, z⟩ := z
              refine ⟨valV kvs c, ?_, z⟩
              rw [keyOf_ok hc]
              exact DGet.k h1
            · exact z.elim
          · exact z.elim
        · cases h
      · cases h

/-! ### tests -/
def mT (Γ : Gm) : Nat → Scope → Ex → Expr → Bool
  | 0, _, _, _ => false
  | n + 1, sc, ex, e => match ex with
    | .and es => (match vBool e with
      | some (.And, xs) => boolM (mT Γ n sc) es xs
      | _ => false)
    | .or es => (match vBool e with
      | some (.Or, xs) => boolM (mT Γ n sc) es xs
      | _ => false)
    | .not a => (match vUn e with
      | some (.Not, x) => mT Γ n sc a x
      | _ => false)
    | .ite _ _ _ => false
    | .cmp op a b => (match vCmp e with
      | some (x, [o], [y]) => decide (o = op.py) && noSet y && mE Γ n sc a x && mE Γ n sc b y
      | _ => false)
    | .chn o p a b c => (match vCmp e with
      | some (x, [o', p'], [y, z]) => decide (o' = o.py) && decide (p' = p.py) && noSet z && mE Γ n sc a x && mE Γ n sc b y && mE Γ n sc c z
      | _ => false)
    | ex => plainX ex && plainT e && mE Γ n sc ex e
theorem pw_ands {f : Ex → Expr → Bool} {pos : Pos} (hf : ∀ ex e, f ex e = true → PT X e (rdT Γ X.K ex)) : ∀ {xs : Exs} {es : List Expr}, boolM f xs es = true → PW X (.BoolOp .And es pos) (rdTA Γ X.K xs)
  | .nil, _, h => absurd (show false = true from h) Bool.false_ne_true
  | .cons _ .nil, [], h => absurd (show false = true from h) Bool.false_ne_true
  | .cons _ .nil, _ :: _ :: _, h => absurd (show false = true from h) Bool.false_ne_true
  | .cons _ (.cons _ _), [], h => absurd (show false = true from h) Bool.false_ne_true
  | .cons _ (.cons _ _), [_], h => absurd (show false = true from h) Bool.false_ne_true
  | .cons a .nil, [e], h => pw_and1 (hf a e h)
  | .cons a (.cons b r), e :: d :: es, h => by
    have h : (f a e && boolM f (.cons b r) (d :: es)) = true := h
    rw [Bool.and_eq_true] at h
    exact pw_and (hf a e h.1) (pw_ands hf h.2)
theorem pw_ors {f : Ex → Expr → Bool} {pos : Pos} (hf : ∀ ex e, f ex e = true → PT X e (rdT Γ X.K ex)) : ∀ {xs : Exs} {es : List Expr}, boolM f xs es = true → PW X (.BoolOp .Or es pos) (rdTO Γ X.K xs)
  | .nil, _, h => absurd (show false = true from h) Bool.false_ne_true
  | .cons _ .nil, [], h => absurd (show false = true from h) Bool.false_ne_true
  | .cons _ .nil, _ :: _ :: _, h => absurd (show false = true from h) Bool.false_ne_true
  | .cons _ (.cons _ _), [], h => absurd (show false = true from h) Bool.false_ne_true
  | .cons _ (.cons _ _), [_], h => absurd (show false = true from h) Bool.false_ne_true
  | .cons a .nil, [e], h => pw_or1 (hf a e h)
  | .cons a (.cons b r), e :: d :: es, h => by
    have h : (f a e && boolM f (.cons b r) (d :: es)) = true := h
    rw [Bool.and_eq_true] at h
    exact pw_or (hf a e h.1) (pw_ors hf h.2)
theorem sound_T (G : Good Γ top X) : ∀ (n : Nat) (ex : Ex) (e : Expr), mT Γ n X.env.scope ex e = true → PT X e (rdT Γ X.K ex)
  | 0, _, _, h => absurd (show false = true from h) Bool.false_ne_true
  | n + 1, ex, e, h => by
    have ih := sound_T G n
    have ie := sound_E n G
    cases ex with
    | and es =>
      simp only [mT] at h
      split at h
      · next xs hx =>
        obtain ⟨p, rfl⟩ := vBool_ok hx
        exact PW.pt (pw_ands ih h)
      · cases h
    | or es =>
      simp only [mT] at h
      split at h
      · next xs hx =>
        obtain ⟨p, rfl⟩ := vBool_ok hx
        exact PW.pt (pw_ors ih h)
      · cases h
    | not a =>
      simp only [mT] at h
      split at h
      · next x hx =>
        obtain ⟨p, rfl⟩ := vUn_ok hx
        exact pt_not (ih a x h)
      · cases h
    | ite _ _ _ => cases h
    | cmp op a b =>
      simp only [mT] at h
      split at h
      · next x o y hx =>
        obtain ⟨p, rfl⟩ := vCmp_ok hx
        simp only [Bool.and_eq_true, decide_eq_true_eq] at h
        obtain ⟨⟨⟨h1, h2⟩, h3⟩, h4⟩ := h
        subst h1
        have q := pt_cmpR (X := X) (pos := p) (cmp_ok G.un op) (ie a x h3) (ie b y h4) (noSet_mark h2)
        have e1 : rdT Γ X.K (.cmp op a b) = tTest (tOp (rdC X.K op) (rdE Γ X.K a) (rdE Γ X.K b)) := by
          show (fun (σ : L2.St) (H : Hp) (Q : Bool → Hp → Prop) => rdE Γ X.K (.cmp op a b) σ H fun x H1 => rdBo x H1 Q) = _
          rw [bo_eq]
          rfl
        rw [e1]
        exact q
      · cases h
    | chn o p a b c =>
      simp only [mT] at h
      split at h
      · next x o' p' y z hx =>
        obtain ⟨ps, rfl⟩ := vCmp_ok hx
        simp only [Bool.and_eq_true, decide_eq_true_eq] at h
        obtain ⟨⟨⟨⟨⟨h1, h2⟩, h3⟩, h4⟩, h5⟩, h6⟩ := h
        subst h1 h2
        have q := pt_chain (X := X) (pos := ps) (cmp_ok G.un o) (cmp_ok G.un p) (ie a x h4) (ie b y h5) (ie c z h6) (show behindInMarks p.py z = false from noSet_mark h3)
        have e1 : rdT Γ X.K (.chn o p a b c) = tTest (tChain (rdC X.K o) (rdC X.K p) (rdE Γ X.K a) (rdE Γ X.K b) (rdE Γ X.K c)) := by
          show (fun (σ : L2.St) (H : Hp) (Q : Bool → Hp → Prop) => rdE Γ X.K a σ H fun x H1 => rdE Γ X.K b σ H1 fun y H2 => rdC X.K o x y H2 fun z H3 => rdBo z H3 fun k H4 =>
            if k = true then rdE Γ X.K c σ H4 fun w H5 => rdC X.K p y w H5 (fun x H1 => rdBo x H1 Q) else rdBo (.bl false) H4 Q) = _
          rw [bo_eq]
          rfl
        rw [e1]
        exact q
      · cases h
    | _ =>
      simp only [mT, plainX, Bool.false_and, Bool.true_and, Bool.and_eq_true, reduceCtorEq] at h <;> first
        | (exact absurd h Bool.false_ne_true)
        | exact pt_plain (ie _ e h.2) h.1
end
end EV

end

section
set_option Elab.async false
set_option linter.all false
set_option maxRecDepth 100000
namespace EV
open PySem PySem.Spec PyProof.Rows L2
section
variable {Γ : Gm} {top : Bool} {X : Cx}

def mNs (Γ : Gm) (top : Bool) (sc : Scope) : List Nat → List Expr → Bool
  | [], [] => true
  | i :: is, e :: es => mN Γ top sc i e && mNs Γ top sc is es
  | _, _ => false
def gAll (is : List Nat) : TGs := fun vs σ H Q => match setAll is vs σ with
  | some σ' => Q σ' H
  | none => False
theorem pgs_names (G : Good Γ top X) : ∀ {is : List Nat} {es : List Expr}, mNs Γ top X.env.scope is es = true → PGs X es (gAll is) ∧ (assignEach es X.env).length = is.length ∧ (assignEach es X.env).findIdx? (·.1) = none
  | [], [], _ => by
    refine ⟨?_, rfl, rfl⟩
    intro pins s σ H vs us Q I r h
    cases r with
    | nil => exact assignInOrder_nil ⟨σ, H, I, h⟩
    | cons r rr => exact False.elim h
  | [], _ :: _, h => absurd (show false = true from h) Bool.false_ne_true
  | _ :: _, [], h => absurd (show false = true from h) Bool.false_ne_true
  | i :: is, e :: es, h => by
    have h : (mN Γ top X.env.scope i e && mNs Γ top X.env.scope is es) = true := h
    rw [Bool.and_eq_true] at h
    obtain ⟨x, p, rfl, hi, hx, hf⟩ := mN_ok G h.1
    obtain ⟨ih, il, ix⟩ := pgs_names G h.2
    have e1 : assignEach (.Name x p :: es) X.env = (false, assign (.Name x p) X.env) :: assignEach es X.env := rfl
    refine ⟨?_, ?_, ?_⟩
    · intro pins s σ H vs us Q I r h
      rw [e1]
      cases r with
      | nil => exact False.elim h
      | cons r rr =>
        show wpAny _ _ (assignInOrder (assign (.Name x p) X.env :: (assignEach es X.env).map (·.2)) _) _ _ _
        refine assignInOrder_cons (thn (pg_name (by rw [G.hN]; exact G.nd) hi hx hf pins s σ H _ _ (fun σ' H' => gAll is _ σ' H' Q) I r h) fun _ s1 ⟨σ1, H1, I1, q1⟩ => ?_)
        exact ih pins s1 σ1 H1 _ _ Q I1 rr q1
    · rw [e1, List.length_cons, List.length_cons, il]
    · rw [e1, List.findIdx?_cons]
      simp [ix]
/-- a tuple that nobody tracks goes to names -/
theorem unpack_raw (G : Good Γ top X) {is : List Nat} {es : List Expr} {k : Nat} {tp : Pos} (hm : mNs Γ top X.env.scope is es = true) {pins : List (Addr × Obj)} {s : Shared} {σ σ' : L2.St} {H : Hp} {T : Addr} {its : List Value} {vs : List V} {Q : L2.St → Hp → Prop}
    (I : Inv X pins σ H s) (ht : s.heap.IsTuple T its.toArray) (r : Vals vs its) (hs : setAll is vs σ = some σ') (q : Q σ' H) :
    wpAny (model X.prog X.w) X.A (assign (.Tuple es k tp) X.env (.ref T)) (fun _ s' => ∃ σ' H', Inv X pins σ' H' s' ∧ Q σ' H') X.xe s := by
  obtain ⟨pg, hl, hx⟩ := pgs_names G hm
  have hlen : ∀ {is : List Nat} {vs : List V} {σ σ' : L2.St}, setAll is vs σ = some σ' → is.length = vs.length := by
    intro is
    induction is with
    | nil => intro vs σ σ' h; cases vs with
      | nil => rfl
      | cons _ _ => cases h
    | cons i is ih => intro vs σ σ' h; cases vs with
      | nil => cases h
      | cons v vs => rw [List.length_cons, List.length_cons, ih h]
  refine assign_Tuple_tuple (I.ok.hd G.calm) ht (by rw [hl, hlen hs, r.length, List.size_toArray]) hx fun h' hk => ?_
  have I1 : Inv X pins σ H { s with heap := h' } := I.kept (t' := s.toks) fun b o e => hk b o (Nat.ne_of_lt (Heap.lt_size e)) e
  refine pg pins _ σ H vs _ Q I1 (by simpa using r) ?_
  show (match setAll is vs σ with | some σ' => Q σ' H | none => False)
  rw [hs]
  exact q
def mG (Γ : Gm) (top : Bool) (sc : Scope) : Tg → Expr → Bool
  | .nm i, e => mN Γ top sc i e
  | .tup is, e => (match vTup e with
    | some es => mNs Γ top sc is es
    | none => false)
theorem sound_G (G : Good Γ top X) {g : Tg} {e : Expr} (h : mG Γ top X.env.scope g e = true) : PG X e (rdG X.K g) := by
  cases g with
  | nm i =>
    obtain ⟨x, p, rfl, hi, hx, hf⟩ := mN_ok G h
    exact pg_name (by rw [G.hN]; exact G.nd) hi hx hf
  | tup is =>
    simp only [mG] at h
    split at h
    · next es he =>
      obtain ⟨k, p, rfl⟩ := vTup_ok he
      intro pins s σ H v u Q I r hw
      cases v with
      | ref a =>
        cases r
        obtain ⟨xs, hq, hw⟩ := hw
        obtain ⟨its, rv, ht, _⟩ := I.tuple hq
        cases e : setAll is xs σ with
        | none => rw [e] at hw; exact hw.elim
        | some σ' =>
          rw [e] at hw
          exact unpack_raw G h I ht rv e hw
      | _ => exact False.elim hw
    · cases h

/-! ### for -/
theorem forL_chk {chk : Hp → Prop} {g : TG} {tb : TS} {xs : List V} {D : Ends} {σ : L2.St} {H : Hp} (h : forL chk g tb xs D σ H) : chk H := by
  cases xs <;> exact h.1
def ForW (J : It) (g : TG) (tb : TS) (D : Ends) (σ : L2.St) (H : Hp) : Prop := ∃ W : Nat → Nat → L2.St → Hp → Prop, (∃ m, W 0 m σ H) ∧ ∀ i m σ H, W i m σ H →
  (J.stop i H ∧ D.nx σ H) ∨ (J.go i H ∧ ∃ N : L2.St → Hp → Prop, (∀ σ' H', N σ' H' → ∃ m', m' < m ∧ W (i + 1) m' σ' H') ∧ ∀ x H', J.yld i H x H' → g x σ H' fun σ2 H2 => tb { D with nx := N, ct := N, bk := D.nx } σ2 H2)
theorem for_of_list {K : PySem.W.Frag} {a : Addr} {xs : List V} {g : TG} {tb : TS} {D : Ends} {σ : L2.St} {H : Hp} (h : forL (fun H => SqL K H a xs) g tb xs D σ H) : ForW (Itl K a) g tb D σ H := for_list (K := K) (a := a) (xs := xs) (g := g) (tb := tb) (D := D) (σ := σ) (H := H)
  (fun i σ H => forL (fun H => SqL K H a xs) g tb (xs.drop i) D σ H) h (fun _ _ _ _ p => forL_chk p)
  (fun i x σ H hx p => by
    have e : xs.drop i = x :: xs.drop (i + 1) := by
      obtain ⟨hl, ex⟩ := List.getElem?_eq_some_iff.mp hx
      rw [List.drop_eq_getElem_cons hl, ex]
    rw [e] at p
    exact p.2)
  (fun σ H p => by
    rw [List.drop_length] at p
    exact p.2)
theorem for_of_tup {K : PySem.W.Frag} {a : Addr} {xs : List V} {g : TG} {tb : TS} {D : Ends} {σ : L2.St} {H : Hp} (h : forL (fun H => SqT K H a xs) g tb xs D σ H) : ForW (Itt K a) g tb D σ H := for_tup (K := K) (a := a) (xs := xs) (g := g) (tb := tb) (D := D) (σ := σ) (H := H)
  (fun i σ H => forL (fun H => SqT K H a xs) g tb (xs.drop i) D σ H) h (fun _ _ _ _ p => forL_chk p)
  (fun i x σ H hx p => by
    have e : xs.drop i = x :: xs.drop (i + 1) := by
      obtain ⟨hl, ex⟩ := List.getElem?_eq_some_iff.mp hx
      rw [List.drop_eq_getElem_cons hl, ex]
    rw [e] at p
    exact p.2)
  (fun σ H p => by
    rw [List.drop_length] at p
    exact p.2)
theorem for_of_rng {lo : Int} {n : Nat} {g : TG} {tb : TS} {D : Ends} {σ : L2.St} {H : Hp} (h : forL (fun _ => True) g tb (rngV lo n) D σ H) : ForW (Itr lo n) g tb D σ H := for_range (lo := lo) (n := n) (g := g) (tb := tb) (D := D) (σ := σ) (H := H)
  (fun i σ H => forL (fun _ => True) g tb ((rngV lo n).drop i) D σ H) h
  (fun i σ H hx p => by
    have e : (rngV lo n).drop i = .int (lo + i) :: (rngV lo n).drop (i + 1) := by
      have hl : i < (rngV lo n).length := by rw [rngV_len]; exact hx
      rw [List.drop_eq_getElem_cons hl]
      congr 1
      simp [rngV]
    rw [e] at p
    exact p.2)
  (fun σ H p => by
    rw [List.drop_eq_nil_of_le (Nat.le_of_eq (rngV_len lo n))] at p
    exact p.2)
theorem for_of_str {x : Str} {g : TG} {tb : TS} {D : Ends} {σ : L2.St} {H : Hp} (h : forL (fun _ => True) g tb (signsV x) D σ H) : ForW (Its x) g tb D σ H := by
  have hl : (signsV x).length = x.cps.size := by simp [signsV]
  refine ⟨fun i m σ H => m = x.cps.size - i ∧ i ≤ x.cps.size ∧ forL (fun _ => True) g tb ((signsV x).drop i) D σ H, ⟨x.cps.size, by simp, Nat.zero_le _, h⟩, ?_⟩
  rintro i m σ H ⟨rfl, hi, p⟩
  by_cases hlt : i < x.cps.size
  · have e : (signsV x).drop i = .str ⟨#[x.cps[i]]⟩ :: (signsV x).drop (i + 1) := by
      have hl' : i < (signsV x).length := by rw [hl]; exact hlt
      rw [List.drop_eq_getElem_cons hl']
      congr 1
      simp [signsV]
    rw [e] at p
    refine .inr ⟨hlt, _, fun σ' H' p' => ⟨x.cps.size - (i + 1), by omega, rfl, hlt, p'⟩, fun v H' y => ?_⟩
    obtain ⟨e1, c, hc, e2⟩ := y
    subst e1 e2
    have : c = x.cps[i] := by
      rw [Array.getElem?_eq_getElem hlt] at hc
      exact (Option.some.inj hc).symm
    subst this
    exact p.2
  · have e : i = x.cps.size := by omega
    subst e
    rw [← hl, List.drop_length] at p
    exact .inl ⟨Nat.le_refl _, p.2⟩

/-! ### a walk whose items are tuples that nobody keeps: enumerate, zip -/
structure ItP where
  go : Nat → Hp → Prop
  yld : Nat → Hp → List V → Prop
  stop : Nat → Hp → Prop
structure TurnP (P : Program) (w : World) (K : PySem.W.Frag) (tg : Expr) (J : ItP) (fp : List Addr) (it : Addr) (tn : Nat → Heap → Prop) : Prop where
  obj : ∀ i h, tn i h → ∀ b ∈ fp, ∃ o, h.get? b = some o ∧ ∀ v, o.data ≠ .cell v
  keep : ∀ i h h', tn i h → (∀ b ∈ fp, ∀ o, h.get? b = some o → h'.get? b = some o) → tn i h'
  item : ∀ (X : Cx), X.prog = P → X.w = w → X.K = K → X.calm = true → ∀ (i : Nat) (pins : List (Addr × Obj)) (s : Shared) (σ : L2.St) (H : Hp) (E : Value → Shared → Prop), Inv X pins σ H s → (∀ b ∈ fp, FpOk X pins H b) → tn i s.heap → J.go i H →
    wpAny (model P w) X.A (pyNext (.ref it)) (fun r s1 => ∃ T, r = some (.ref T) ∧
      wpAny (model P w) X.A (letOwnedTupleGo tg (.ref it) (.ref T)) (fun _ s2 => ∃ (xs : List V) (its : List Value), Inv X pins σ H s2 ∧ s2.heap.IsTuple T its.toArray ∧ Vals xs its ∧ J.yld i H xs ∧ tn (i + 1) s2.heap) E s1) E s
  done : ∀ (X : Cx), X.prog = P → X.w = w → X.K = K → X.calm = true → ∀ (i : Nat) (pins : List (Addr × Obj)) (s : Shared) (σ : L2.St) (H : Hp) (E : Value → Shared → Prop), Inv X pins σ H s → (∀ b ∈ fp, FpOk X pins H b) → tn i s.heap → J.stop i H →
    wpAny (model P w) X.A (pyNext (.ref it)) (fun r s1 => r = none ∧ Inv X pins σ H s1) E s
def PIP (X : Cx) (tg iter : Expr) (wi : L2.St → Hp → (ItP → Hp → Prop) → Prop) : Prop :=
  ∀ (pins : List (Addr × Obj)) (s : Shared) (σ : L2.St) (H : Hp) (R : ItP → Hp → Prop), Inv X pins σ H s → wi σ H R →
    wpAny (model X.prog X.w) X.A (eval iter X.env) (fun v s1 => wpAny (model X.prog X.w) X.A (pyIter v) (fun itv s2 =>
      ∃ (it : Addr) (fp : List Addr) (tn : Nat → Heap → Prop) (J : ItP) (H' : Hp), itv = .ref it ∧ Inv X pins σ H' s2 ∧ TurnP X.prog X.w X.K tg J fp it tn ∧ tn 0 s2.heap ∧ (∀ b ∈ fp, FpOk X pins H' b) ∧ R J H') X.xe s1) X.xe s
/-- from the walk's turns and the list of what it yields -/
theorem ps_forP (G : Good Γ top X) {iter : Expr} {body : List Stmt} {is : List Nat} {es : List Expr} {k : Nat} {tp pos : Pos} {wi : L2.St → Hp → (ItP → Hp → Prop) → Prop} {tb : TS} (hi : PIP X (.Tuple es k tp) iter wi) (hm : mNs Γ top X.env.scope is es = true) (hb : PSs X body tb)
    (hs : ∀ x, foldedSetIterable iter X.env x = pure x) : PS X (.For (.Tuple es k tp) iter body [] pos) (fun D σ H => wi σ H fun J H1 => ∃ (chk : Hp → Prop) (rows : List (List V)),
      (∀ i H, chk H → i < rows.length → J.go i H ∧ ∀ vs, J.yld i H vs → rows[i]? = some vs) ∧ (∀ i H, chk H → rows.length ≤ i → J.stop i H) ∧ forP chk is tb rows D σ H1) := by
  intro pins s σ H D I h
  have hp : PassesOwn (model X.prog X.w) X.A X.env X.xe := by rw [G.xe]; exact PassesOwn.never
  refine wpAny_For (thn (hi pins s σ H _ I h) fun v s1 h1 => thn h1 fun itv s2 h2 => ?_) hs
  obtain ⟨it, fp, tn, J, H2, e, I2, T, st2, f2, chk, rows, hgo, hstop, w0⟩ := h2
  subst e
  have stat : ∀ {H' : Hp}, (∀ b ∈ fp, H' b = none) → ∀ b ∈ fp, FpOk X pins H' b := fun hn b hb => ⟨hn b hb, (f2 b hb).2⟩
  refine codeAny_forLoop_any (fun n s' => ∃ i σ' H', Inv X pins σ' H' s' ∧ tn i s'.heap ∧ (∀ b ∈ fp, H' b = none) ∧ n = rows.length - i ∧ i ≤ rows.length ∧ forP chk is tb (rows.drop i) D σ' H') ?_ rows.length ⟨0, σ, H2, I2, st2, fun b hb => (f2 b hb).1, by simp, Nat.zero_le _, w0⟩
  rintro n s3 ⟨i, σ3, H3, I3, st3, fr3, rfl, hle, w3⟩
  by_cases hlt : i < rows.length
  · have e1 : rows.drop i = rows[i] :: rows.drop (i + 1) := List.drop_eq_getElem_cons hlt
    rw [e1] at w3
    obtain ⟨hc, w3⟩ := w3
    obtain ⟨go, yld⟩ := hgo i H3 hc hlt
    refine wpAny_passesOwn hp (thn (T.item X rfl rfl rfl G.calm i pins s3 σ3 H3 X.xe I3 (stat fr3) st3 go) fun r s4 ⟨Tu, hr, h4⟩ => ?_)
    subst hr
    refine wpAny_passesOwn hp (thn h4 fun _ s5 ⟨xs, its, I5, ht, rv, y5, st5⟩ => ?_)
    have I5' := I5.pinned (stat fr3) (T.obj _ _ st5)
    have ex := yld xs y5
    rw [List.getElem?_eq_getElem hlt] at ex
    have ex := Option.some.inj ex
    rw [ex] at w3
    cases ea : setAll is xs σ3 with
    | none => rw [ea] at w3; exact w3.elim
    | some σ4 =>
      rw [ea] at w3
      refine wpAny_passesOwn hp (thn (unpack_raw G (Q := fun σ' H' => σ' = σ4 ∧ H' = H3) hm I5' ht rv ea ⟨rfl, rfl⟩) fun _ s6 ⟨σ6, H6, I6, e6, e7⟩ => ?_)
      subst e6 e7
      refine wpAny_passesOwn hp (thn (hb _ s6 _ _ _ I6 w3) fun f s7 q7 => ?_)
      have again : ∀ {σ7 : L2.St} {H7 : Hp}, Inv X (pins ++ pinsAt fp s5.heap) σ7 H7 s7 → forP chk is tb (rows.drop (i + 1)) D σ7 H7 → ∃ m, m < rows.length - i ∧ ∃ i σ' H', Inv X pins σ' H' s7 ∧ tn i s7.heap ∧ (∀ b ∈ fp, H' b = none) ∧ m = rows.length - i ∧ i ≤ rows.length ∧ forP chk is tb (rows.drop i) D σ' H' := fun {σ7 H7} I7 n7 => by
        refine ⟨rows.length - (i + 1), by omega, i + 1, σ7, H7, I7.unpinned, T.keep _ _ _ st5 fun b hb o e => (I7.pin (b, o) (List.mem_append_right _ (List.mem_append_right _ (mem_pinsAt hb e)))).1, fun b hb => ?_, rfl, hlt, n7⟩
        obtain ⟨o, e, d⟩ := T.obj _ _ st5 b hb
        exact (I7.pin (b, o) (List.mem_append_right _ (List.mem_append_right _ (mem_pinsAt hb e)))).2.1
      cases f with
      | next => obtain ⟨σ7, H7, I7, n7⟩ := q7; exact again I7 n7
      | cont => obtain ⟨σ7, H7, I7, n7⟩ := q7; exact again I7 n7
      | brk => obtain ⟨σ7, H7, I7, q7⟩ := q7; exact ⟨σ7, H7, I7.unpinned, q7⟩
      | ret v => obtain ⟨x7, σ7, H7, I7, r7, q7⟩ := q7; exact ⟨x7, σ7, H7, I7.unpinned, r7, q7⟩
  · have e : i = rows.length := by omega
    subst e
    rw [List.drop_length] at w3
    refine wpAny_passesOwn hp (thn (T.done X rfl rfl rfl G.calm _ pins s3 σ3 H3 X.xe I3 (stat fr3) st3 (hstop _ H3 w3.1 (Nat.le_refl _))) fun r s4 ⟨hr, I4⟩ => ?_)
    subst hr
    exact wpAny_execs_nil ⟨σ3, H3, I4, w3.2⟩
end
end EV

end

section
set_option Elab.async false
set_option linter.all false
set_option maxRecDepth 100000
namespace EV
open PySem PySem.Spec PyProof.Rows L2
def IpE (K : PySem.W.Frag) (a : Addr) : ItP :=
  ⟨fun i H => ∃ (xs : List V) (x : V), SqL K H a xs ∧ xs[i]? = some x, fun i H vs => ∃ x, vs = [.int (i : Nat), x] ∧ ∀ xs, SqL K H a xs → xs[i]? = some x, fun i H => ∃ xs : List V, SqL K H a xs ∧ xs.length ≤ i⟩
theorem turn_enumP {P : Program} {w : World} {K : PySem.W.Frag} {elts : List Expr} {kk : Nat} {tpos : Pos} (a e it : Addr) :
    TurnP P w K (.Tuple elts kk tpos) (IpE K a) [e, it] e (fun i h => (∃ old, IsEnum h e it ((i : Nat) : Int) old) ∧ h.IsListIter it a i ∧ e ≠ it) where
  obj := fun i h st b hb => by
    obtain ⟨⟨old, he⟩, ⟨o, ho, hc, hd⟩, _⟩ := st
    have e' : b = e ∨ b = it := by simpa using hb
    rcases e' with z | z
    · rw [z]; exact ⟨_, he, fun v q => nomatch q⟩
    · rw [z]; exact ⟨o, ho, fun v q => by rw [hd] at q; cases q⟩
  keep := fun i h h' st k => let ⟨⟨old, he⟩, hi, hne⟩ := st; ⟨⟨old, k e (by simp) _ he⟩, hi.at fun o q => k it (by simp) o q, hne⟩
  item := by
    intro X hP hw hK hc i pins s σ H E I hf st hg
    subst hP hw hK
    obtain ⟨⟨old, he⟩, hit, hne⟩ := st
    obtain ⟨xs, x, hq, hx⟩ := hg
    obtain ⟨its, rv, p, hz⟩ := I.list hq
    obtain ⟨u, hu, ru⟩ := rv.get hx
    have hel : e < s.heap.objs.size := Heap.lt_size he
    have hil : it < s.heap.objs.size := by obtain ⟨_, q, _⟩ := hit; exact Heap.lt_size q
    refine wpAny_pyNext_enum_item he hit p.isList (x := u) (by simpa using hu) hne fun h' ho hit' hT hsz hk => ?_
    refine ⟨_, rfl, wpAny_letOwnedTupleGo_enum (s := { s with heap := h', toks := s.toks + 1 }) ho fun h'' he' sb => ?_⟩
    have hT2 : h''.get? s.heap.objs.size = some { cls := .type "tuple", data := .seq #[.int i s.toks, u] } := (sb.2 _ (Nat.ne_of_gt hel)).trans hT
    have I1 : Inv X pins σ H { s with heap := h'', toks := s.toks + 1 } :=
      I.turnedL (ch := [e, it]) (fun b ob hb q => (sb.2 b (fun z => hb (by simp [z]))).trans (hk b ob (fun z => hb (by simp [z])) (fun z => hb (by simp [z])) q)) hf
    refine ⟨[.int (i : Nat), x], [.int i s.toks, u], I1, ⟨_, hT2, rfl, _, rfl⟩, .cons ⟨_, rfl⟩ (.cons ru .nil), ⟨x, rfl, fun ys hy => by rw [I.list_inj hy hq]; exact hx⟩, ⟨⟨u, ?_⟩, hit'.at fun o q => (sb.2 it (Ne.symm hne)).trans q, hne⟩⟩
    have e1 : ((i + 1 : Nat) : Int) = (i : Int) + 1 := by omega
    rw [e1]; exact he'
  done := by
    intro X hP hw hK hc i pins s σ H E I hf st hg
    subst hP hw hK
    obtain ⟨⟨old, he⟩, hit, hne⟩ := st
    obtain ⟨xs, hq, hx⟩ := hg
    obtain ⟨its, rv, p, hz⟩ := I.list hq
    obtain ⟨f0, f1, f2, f3, f4, f5⟩ := hf it (by simp)
    have hl := rv.length
    exact wpAny_pyNext_enum_end (I.ok.hd hc) he hit p.isList (by simp; omega) fun h' eb => ⟨rfl, I.turned (t' := s.toks) (fun b o hb q => eb b o hb q) f0 f1 f3 f4 f5⟩
theorem pip_enum {X : Cx} {e : Expr} {ta : TA} {p pos tpos : Pos} {elts : List Expr} {kk : Nat} (hg : Gl X "enumerate") (hm : X.mg "enumerate" = none) (ha : PA X [e] ta) (hs : starEach [e] X.env = [(false, eval e X.env)]) :
    PIP X (.Tuple elts kk tpos) (.Call (.Name "enumerate" p) [e] [] pos) (fun σ H R => ta σ H fun vs H1 => ∃ a xs, vs = [.ref a] ∧ SqL X.K H1 a xs ∧ R (IpE X.K a) H1) := by
  intro pins s σ H R I h
  refine Call_ (ld_blt I hg hm boot_enumerate (PyProof.Rows.callWith_type1 (thn (ha pos pins s σ H _ I h) fun us s1 ⟨vs, H1, I1, r1, q1⟩ => ?_) hs rfl))
  obtain ⟨a, xs, ex, hq, q⟩ := q1
  subst ex
  cases r1 with
  | cons r rr =>
    cases rr
    cases r
    obtain ⟨its, rv, p', hz⟩ := I1.list hq
    refine call_enumerate_list p'.isList fun h' he hit hsz hk => wpAny_pyIter_enum he ?_
    have I2 : Inv X pins σ H1 { s1 with heap := h' } := I1.kept (t' := s1.toks) hk
    refine ⟨s1.heap.objs.size + 1, [s1.heap.objs.size + 1, s1.heap.objs.size], _, _, H1, rfl, I2, turn_enumP a (s1.heap.objs.size + 1) s1.heap.objs.size, ⟨⟨.none, he⟩, hit, Nat.succ_ne_self _⟩, fun b hb => ?_, q⟩
    have e' : b = s1.heap.objs.size + 1 ∨ b = s1.heap.objs.size := by simpa using hb
    have hle : s1.heap.objs.size ≤ b := by
      rcases e' with z | z
      · rw [z]; exact Nat.le_add_right _ _
      · rw [z]; exact Nat.le_refl _
    exact I1.fpOk hle (I1.hok.fresh hle)
def IpZ (K : PySem.W.Frag) (a b : Addr) : ItP :=
  ⟨fun i H => ∃ (xs ys : List V) (x y : V), SqL K H a xs ∧ SqL K H b ys ∧ xs[i]? = some x ∧ ys[i]? = some y,
    fun i H vs => ∃ x y, vs = [x, y] ∧ (∀ xs, SqL K H a xs → xs[i]? = some x) ∧ ∀ ys, SqL K H b ys → ys[i]? = some y,
    fun i H => ∃ xs ys : List V, SqL K H a xs ∧ SqL K H b ys ∧ (xs.length ≤ i ∨ ys.length ≤ i)⟩
theorem turn_zipP {P : Program} {w : World} {K : PySem.W.Frag} {elts : List Expr} {kk : Nat} {tpos : Pos} {a b z TI TO i1 i2 : Addr} (D : ZipApart z TI TO i1 i2 a b) :
    TurnP P w K (.Tuple elts kk tpos) (IpZ K a b) [z, TI, TO, i1, i2] z (fun i h => IsZip h z TI TO .none ∧ IsPair h TI (.ref i1) (.ref i2) ∧ (∃ x y, IsPair h TO x y) ∧ h.IsListIter i1 a i ∧ h.IsListIter i2 b i) where
  obj := fun i h st c hc => by
    obtain ⟨hz, hTI, ⟨x, y, hTO⟩, ⟨o1, e1, _, d1⟩, ⟨o2, e2, _, d2⟩⟩ := st
    have e' : c = z ∨ c = TI ∨ c = TO ∨ c = i1 ∨ c = i2 := by simpa using hc
    rcases e' with q | q | q | q | q
    · rw [q]; exact ⟨_, hz, fun v q => nomatch q⟩
    · rw [q]; exact ⟨_, hTI, fun v q => nomatch q⟩
    · rw [q]; exact ⟨_, hTO, fun v q => nomatch q⟩
    · rw [q]; exact ⟨o1, e1, fun v q => by rw [d1] at q; cases q⟩
    · rw [q]; exact ⟨o2, e2, fun v q => by rw [d2] at q; cases q⟩
  keep := fun i h h' st k => by
    obtain ⟨hz, hTI, ⟨x, y, hTO⟩, h1, h2⟩ := st
    exact ⟨k z (by simp) _ hz, k TI (by simp) _ hTI, ⟨x, y, k TO (by simp) _ hTO⟩, h1.at fun o q => k i1 (by simp) o q, h2.at fun o q => k i2 (by simp) o q⟩
  item := by
    intro X hP hw hK hc i pins s σ H E I hf st hg
    subst hP hw hK
    obtain ⟨hz, hTI, ⟨x0, y0, hTO⟩, h1, h2⟩ := st
    obtain ⟨xs, ys, x, y, hqx, hqy, hx, hy⟩ := hg
    obtain ⟨its, rv, p, _⟩ := I.list hqx
    obtain ⟨its2, rv2, p2, _⟩ := I.list hqy
    obtain ⟨u, hu, ru⟩ := rv.get hx
    obtain ⟨u2, hu2, ru2⟩ := rv2.get hy
    have hzl : z < s.heap.objs.size := Heap.lt_size hz
    refine wpAny_pyNext_zip_item D hz hTI hTO h1 h2 p.isList p2.isList (x := u) (y := u2) (by simpa using hu) (by simpa using hu2) fun h' z' TO' h1' h2' hT hsz hk => ?_
    refine ⟨_, rfl, wpAny_letOwnedTupleGo_zip (s := { s with heap := h' }) z' fun h'' z'' sb => ?_⟩
    have hT2 : h''.get? s.heap.objs.size = some { cls := .type "tuple", data := .seq #[u, u2] } := (sb.2 _ (Nat.ne_of_gt hzl)).trans hT
    have I1 : Inv X pins σ H { s with heap := h'' } :=
      I.turnedL (t' := s.toks) (ch := [z, TI, TO, i1, i2]) (fun c o hb q => (sb.2 c (fun q' => hb (by simp [q']))).trans (hk c o (fun q' => hb (by simp [q'])) (fun q' => hb (by simp [q'])) (fun q' => hb (by simp [q'])) (fun q' => hb (by simp [q'])) q)) hf
    refine ⟨[x, y], [u, u2], I1, ⟨_, hT2, rfl, _, rfl⟩, .cons ru (.cons ru2 .nil), ⟨x, y, rfl, fun l hl => by rw [I.list_inj hl hqx]; exact hx, fun l hl => by rw [I.list_inj hl hqy]; exact hy⟩, ⟨z'', ?_, ⟨u, u2, ?_⟩, ?_, ?_⟩⟩
    · exact (sb.2 _ D.TIz).trans (hk _ _ D.TIz D.TITO D.TIi1 D.TIi2 hTI)
    · exact (sb.2 _ D.TOz).trans TO'
    · exact h1'.at fun o q => (sb.2 _ D.i1z).trans q
    · exact h2'.at fun o q => (sb.2 _ D.i2z).trans q
  done := by
    intro X hP hw hK hc i pins s σ H E I hf st hg
    subst hP hw hK
    obtain ⟨hz, hTI, ⟨x0, y0, hTO⟩, h1, h2⟩ := st
    obtain ⟨xs, ys, hqx, hqy, hend⟩ := hg
    obtain ⟨its, rv, p, _⟩ := I.list hqx
    obtain ⟨its2, rv2, p2, _⟩ := I.list hqy
    have l1 := rv.length
    have l2 := rv2.length
    have he : its.toArray[i]? = none ∨ its2.toArray[i]? = none := by
      rcases hend with q | q
      · exact .inl (by simp; omega)
      · exact .inr (by simp; omega)
    exact wpAny_pyNext_zip_end (I.ok.hd hc) D hz hTI hTO h1 h2 p.isList p2.isList he fun h' hk => ⟨rfl, I.turnedL (t' := s.toks) (ch := [z, TI, TO, i1, i2]) (fun c o hb q =>
      hk c o (fun q' => hb (by simp [q'])) (fun q' => hb (by simp [q'])) (fun q' => hb (by simp [q'])) (fun q' => hb (by simp [q'])) q) hf⟩
theorem pip_zip {X : Cx} {e e2 : Expr} {ta : TA} {p pos tpos : Pos} {elts : List Expr} {kk : Nat} (hg : Gl X "zip") (hm : X.mg "zip" = none) (ha : PA X [e, e2] ta)
    (hs : starEach [e, e2] X.env = (false, eval e X.env) :: starEach [e2] X.env) (hpl : (backTo pos (starEach [e2] X.env)).any (·.1) = false) :
    PIP X (.Tuple elts kk tpos) (.Call (.Name "zip" p) [e, e2] [] pos) (fun σ H R => ta σ H fun vs H1 => ∃ a b xs ys, vs = [.ref a, .ref b] ∧ SqL X.K H1 a xs ∧ SqL X.K H1 b ys ∧ R (IpZ X.K a b) H1) := by
  intro pins s σ H R I h
  refine Call_ (ld_blt I hg hm boot_zip5 (PyProof.Rows.callWith_type1 (thn (ha pos pins s σ H _ I h) fun us s1 ⟨vs, H1, I1, r1, q1⟩ => ?_) hs hpl))
  obtain ⟨a, b, xs, ys, ex, hqx, hqy, q⟩ := q1
  subst ex
  cases r1 with
  | cons r rr =>
    cases rr with
    | cons r' rr =>
      cases rr
      cases r
      cases r'
      obtain ⟨its, rv, p1, _⟩ := I1.list hqx
      obtain ⟨its2, rv2, p2, _⟩ := I1.list hqy
      have la : a < s1.heap.objs.size := p1.lt
      have lb : b < s1.heap.objs.size := p2.lt
      refine call_zip_2 p1.isList p2.isList fun h' hz hTI hTO h1 h2 hsz hk => wpAny_pyIter_zip hz ?_
      have I2 : Inv X pins σ H1 { s1 with heap := h' } := I1.kept (t' := s1.toks) hk
      refine ⟨s1.heap.objs.size + 4, [s1.heap.objs.size + 4, s1.heap.objs.size + 2, s1.heap.objs.size + 3, s1.heap.objs.size, s1.heap.objs.size + 1], _, _, H1, rfl, I2, turn_zipP (PySem.W.ktu_apart s1.heap.objs.size a b la lb), ⟨hz, hTI, ⟨_, _, hTO⟩, h1, h2⟩, fun c hcm => ?_, q⟩
      have e' : c = s1.heap.objs.size + 4 ∨ c = s1.heap.objs.size + 2 ∨ c = s1.heap.objs.size + 3 ∨ c = s1.heap.objs.size ∨ c = s1.heap.objs.size + 1 := by simpa using hcm
      have hle : s1.heap.objs.size ≤ c := by
        rcases e' with z | z | z | z | z
        · rw [z]; exact Nat.le_add_right _ _
        · rw [z]; exact Nat.le_add_right _ _
        · rw [z]; exact Nat.le_add_right _ _
        · rw [z]; exact Nat.le_refl _
        · rw [z]; exact Nat.le_add_right _ _
      exact I1.fpOk hle (I1.hok.fresh hle)
theorem enumV_get : ∀ (xs : List V) (i j : Nat) (x : V), xs[j]? = some x → (enumV i xs)[j]? = some [.int ((i + j : Nat)), x]
  | [], _, _, _, h => by simp at h
  | y :: r, i, 0, x, h => by
    have e : y = x := Option.some.inj h
    subst e
    rfl
  | y :: r, i, j + 1, x, h => by
    show (enumV (i + 1) r)[j]? = _
    rw [enumV_get r (i + 1) j x h]
    congr 4
    omega
theorem enumV_len : ∀ (xs : List V) (i : Nat), (enumV i xs).length = xs.length
  | [], _ => rfl
  | _ :: r, i => by
    show (enumV (i + 1) r).length + 1 = r.length + 1
    rw [enumV_len]
theorem zipV_get : ∀ (xs ys : List V) (j : Nat) (x y : V), xs[j]? = some x → ys[j]? = some y → (zipV xs ys)[j]? = some [x, y]
  | [], _, _, _, _, h, _ => by simp at h
  | _ :: _, [], _, _, _, _, h => by simp at h
  | _ :: r, _ :: t, 0, x, y, h, h' => by
    cases (Option.some.inj h)
    cases (Option.some.inj h')
    rfl
  | _ :: r, _ :: t, j + 1, x, y, h, h' => zipV_get r t j x y h h'
theorem zipV_len : ∀ (xs ys : List V), (zipV xs ys).length = min xs.length ys.length
  | [], _ => by simp [zipV]
  | _ :: _, [] => by simp [zipV]
  | _ :: r, _ :: t => by
    show (zipV r t).length + 1 = min (r.length + 1) (t.length + 1)
    rw [zipV_len]
    omega
end EV

end

section
set_option Elab.async false
set_option linter.all false
set_option maxRecDepth 100000
namespace EV
open PySem PySem.Spec PyProof.Rows L2
abbrev SI (h : Heap) (a : Addr) (x : Str) (t : Tok) (i : Nat) : Prop := h.IsStrIter a "str_ascii_iterator" x t i
structure ApS (z U V' a b : Addr) : Prop where
  Uz : U ≠ z
  Vz : V' ≠ z
  az : a ≠ z
  bz : b ≠ z
  UV : U ≠ V'
  Ua : U ≠ a
  Ub : U ≠ b
  Va : V' ≠ a
  Vb : V' ≠ b
  ab : a ≠ b
section
variable {prog : Program} {w : World} {A : Around} {E : Value → Shared → Prop} {s : Shared}
theorem zs_item {z U W i1 i2 : Addr} {x1 x2 : Str} {t1 t2 : Tok} {k1 k2 c1 c2 : Nat} {p q : Value} {Q : Value → Shared → Prop} (D : ApS z U W i1 i2)
    (hz : IsZip s.heap z U W .none) (hU : IsPair s.heap U (.ref i1) (.ref i2)) (hW : IsPair s.heap W p q)
    (f1 : SI s.heap i1 x1 t1 k1) (f2 : SI s.heap i2 x2 t2 k2) (e1 : x1.cps[k1]? = some c1) (e2 : x2.cps[k2]? = some c2)
    (hQ : ∀ h', IsZip h' z U W (rawInt s.heap.objs.size) → IsPair h' W (.str ⟨#[c1]⟩ s.toks) (.str ⟨#[c2]⟩ (s.toks + 1)) → SI h' i1 x1 t1 (k1 + 1) → SI h' i2 x2 t2 (k2 + 1) →
      IsPair h' s.heap.objs.size (.str ⟨#[c1]⟩ s.toks) (.str ⟨#[c2]⟩ (s.toks + 1)) → h'.objs.size = s.heap.objs.size + 1 →
      (∀ d o, d ≠ z → d ≠ W → d ≠ i1 → d ≠ i2 → s.heap.get? d = some o → h'.get? d = some o) → Q (.ref s.heap.objs.size) { s with heap := h', toks := s.toks + 1 + 1 }) :
    wpAny (model prog w) A (Builtin.«zip.__next__» ⟨[.ref z], []⟩) (fun fin s' => ∃ v, fin = .done (.ret v) ∧ Q v s') E s := by
  show wpAny _ _ (field (.ref z) 2 >>= _) _ _ _
  refine wpAny_bind (wpAny_field hz rfl (x := .bool false) rfl ?_)
  show wpAny _ _ (field (.ref z) 3 >>= _) _ _ _
  refine wpAny_bind (wpAny_field hz rfl (x := .ref U) rfl ?_)
  refine wpAny_bind (wpAny_seqItems hU rfl ?_)
  show wpAny _ _ (Builtin.SmallTypes.ownedTupleIsFree (.ref z) >>= _) _ _ _
  refine wpAny_bind ?_
  unfold Builtin.SmallTypes.ownedTupleIsFree
  refine wpAny_bind (wpAny_field hz rfl (x := .none) rfl (wpAny_pure ?_))
  simp only [if_true]
  refine wpAny_bind (wpAny_rule ?_)
  refine wpAny_bind (wpAny_field hz rfl (x := .ref W) rfl ?_)
  refine wpAny_bind (wpAny_setField_rec hz (by simp) fun g1 zg1 sg1 => ?_)
  replace zg1 : IsZip g1 z U W .ellipsis := zg1
  refine wpAny_bind ?_
  simp only [List.zipIdx_cons, List.zipIdx_nil, List.forIn_cons, List.forIn_nil]
  refine wpAny_bind (wpAny_bind (wpAny_onRaise ?_))
  show wpAny _ _ (Builtin.SmallTypes.nextOf (.ref i1) >>= _) _ _ _
  refine wpAny_bind (wpAny_nextOf_ascii_item (f1.extBut sg1.extBut D.az) e1 fun g2 f1b sg2 => wpAny_pure ?_)
  have W2 : IsPair g2 W p q := sg2.extBut _ _ D.Va (sg1.extBut _ _ D.Vz hW)
  refine wpAny_bind (wpAny_seqItems W2 rfl ?_)
  refine wpAny_bind (wpAny_updateSeq_pair W2 fun g3 W3 sg3 => ?_)
  replace W3 : IsPair g3 W (.str ⟨#[c1]⟩ s.toks) q := W3
  refine wpAny_bind (wpAny_letGo (wpAny_pure ?_))
  refine wpAny_bind (wpAny_bind (wpAny_onRaise ?_))
  show wpAny _ _ (Builtin.SmallTypes.nextOf (.ref i2) >>= _) _ _ _
  refine wpAny_bind (wpAny_nextOf_ascii_item (((f2.extBut sg1.extBut D.bz).extBut sg2.extBut D.ab.symm).extBut sg3.extBut D.Vb.symm) e2 fun g4 f2b sg4 => wpAny_pure ?_)
  have W4 : IsPair g4 W (.str ⟨#[c1]⟩ s.toks) q := sg4.extBut _ _ D.Vb W3
  refine wpAny_bind (wpAny_seqItems W4 rfl ?_)
  refine wpAny_bind (wpAny_updateSeq_pair W4 fun g5 W5 sg5 => ?_)
  replace W5 : IsPair g5 W (.str ⟨#[c1]⟩ s.toks) (.str ⟨#[c2]⟩ (s.toks + 1)) := W5
  refine wpAny_bind (wpAny_letGo (wpAny_pure (wpAny_pure ?_)))
  refine wpAny_bind (wpAny_seqItems W5 rfl ?_)
  refine wpAny_bind (wpAny_newTuple ?_)
  have hsz : g5.objs.size = s.heap.objs.size := by rw [sg5.1, sg4.1, sg3.1, sg2.1, sg1.1]
  have zg5 : IsZip g5 z U W .ellipsis := sg5.extBut _ _ D.Vz.symm (sg4.extBut _ _ D.bz.symm (sg3.extBut _ _ D.Vz.symm (sg2.extBut _ _ D.az.symm zg1)))
  have kp5 : ∀ d o, d ≠ z → d ≠ W → d ≠ i1 → d ≠ i2 → s.heap.get? d = some o → g5.get? d = some o := fun d o d1 d2 d3 d4 e =>
    sg5.extBut _ _ d2 (sg4.extBut _ _ d4 (sg3.extBut _ _ d2 (sg2.extBut _ _ d3 (sg1.extBut _ _ d1 e))))
  have f1c : SI g5 i1 x1 t1 (k1 + 1) := ((f1b.extBut sg3.extBut D.Va.symm).extBut sg4.extBut D.ab).extBut sg5.extBut D.Va.symm
  have f2c : SI g5 i2 x2 t2 (k2 + 1) := f2b.extBut sg5.extBut D.Vb.symm
  have zl : z < g5.objs.size := Heap.lt_size zg5
  show wpAny _ _ (Builtin.SmallTypes.ownedTupleHandOut (.ref z) (.ref g5.objs.size) >>= _) _ _ _
  refine wpAny_bind ?_
  unfold Builtin.SmallTypes.ownedTupleHandOut
  have zg6 : IsZip (g5.push { cls := .type "tuple", data := .seq #[.str ⟨#[c1]⟩ s.toks, .str ⟨#[c2]⟩ (s.toks + 1)] }) z U W .ellipsis := Heap.get?_push_of_some _ zg5
  refine wpAny_bind (wpAny_setField_rec zg6 (by simp) fun g7 zg7 sg7 => ?_)
  replace zg7 : IsZip g7 z U W (rawInt g5.objs.size) := zg7
  refine wpAny_setField_rec zg7 (by simp) fun g8 zg8 sg8 => ?_
  replace zg8 : IsZip g8 z U W (rawInt g5.objs.size) := zg8
  have up : ∀ d o, d ≠ z → g5.get? d = some o → g8.get? d = some o := fun d o d1 e => sg8.extBut _ _ d1 (sg7.extBut _ _ d1 (Heap.get?_push_of_some _ e))
  have T8 : IsPair g8 g5.objs.size (.str ⟨#[c1]⟩ s.toks) (.str ⟨#[c2]⟩ (s.toks + 1)) := sg8.extBut _ _ (Nat.ne_of_gt zl) (sg7.extBut _ _ (Nat.ne_of_gt zl) (Heap.get?_push_size _ rfl))
  have s8 : g8.objs.size = g5.objs.size + 1 := by rw [sg8.1, sg7.1, Heap.size_push]
  rw [hsz] at zg8 T8 s8
  refine wpAny_pure ⟨_, rfl, ?_⟩
  show Q (.ref g5.objs.size) _
  rw [hsz]
  obtain ⟨oa, ea, ra⟩ := f1c
  obtain ⟨ob, eb, rb⟩ := f2c
  exact hQ g8 zg8 (up _ _ D.Vz W5) ⟨oa, up _ _ D.az ea, ra⟩ ⟨ob, up _ _ D.bz eb, rb⟩ T8 s8 fun d o d1 d2 d3 d4 e => up d o d1 (kp5 d o d1 d2 d3 d4 e)
theorem zs_end {z U W i1 i2 : Addr} {x1 x2 : Str} {t1 t2 : Tok} {k1 k2 : Nat} {p q : Value} {Q : Fin → Shared → Prop} (hh : A.handled = none) (D : ApS z U W i1 i2)
    (hz : IsZip s.heap z U W .none) (hU : IsPair s.heap U (.ref i1) (.ref i2)) (hW : IsPair s.heap W p q)
    (f1 : SI s.heap i1 x1 t1 k1) (f2 : SI s.heap i2 x2 t2 k2) (he : x1.cps[k1]? = none)
    (hE : ∀ h' e, (∀ d o, d ≠ z → d ≠ W → d ≠ i1 → d ≠ i2 → s.heap.get? d = some o → h'.get? d = some o) → (∃ o, h'.get? e = some o ∧ o.cls = .type "StopIteration") → E (.ref e) { s with heap := h' }) :
    wpAny (model prog w) A (Builtin.«zip.__next__» ⟨[.ref z], []⟩) Q E s := by
  show wpAny _ _ (field (.ref z) 2 >>= _) _ _ _
  refine wpAny_bind (wpAny_field hz rfl (x := .bool false) rfl ?_)
  show wpAny _ _ (field (.ref z) 3 >>= _) _ _ _
  refine wpAny_bind (wpAny_field hz rfl (x := .ref U) rfl ?_)
  refine wpAny_bind (wpAny_seqItems hU rfl ?_)
  show wpAny _ _ (Builtin.SmallTypes.ownedTupleIsFree (.ref z) >>= _) _ _ _
  refine wpAny_bind ?_
  unfold Builtin.SmallTypes.ownedTupleIsFree
  refine wpAny_bind (wpAny_field hz rfl (x := .none) rfl (wpAny_pure ?_))
  simp only [if_true]
  refine wpAny_bind (wpAny_rule ?_)
  refine wpAny_bind (wpAny_field hz rfl (x := .ref W) rfl ?_)
  refine wpAny_bind (wpAny_setField_rec hz (by simp) fun g1 zg1 sg1 => ?_)
  replace zg1 : IsZip g1 z U W .ellipsis := zg1
  refine wpAny_bind ?_
  simp only [List.zipIdx_cons, List.zipIdx_nil, List.forIn_cons, List.forIn_nil]
  refine wpAny_bind (wpAny_bind (wpAny_onRaise ?_))
  show wpAny _ _ (Builtin.SmallTypes.nextOf (.ref i1) >>= _) _ _ _
  refine wpAny_bind (wpAny_nextOf_ascii_end hh (f1.extBut sg1.extBut D.az) he fun g2 ex sg2 hex => ?_)
  obtain ⟨oe, hoe, hce⟩ := hex
  have zg2 : IsZip g2 z U W .ellipsis := sg2 _ _ D.az.symm zg1
  have hez : ex ≠ z := fun y => by subst y; rw [zg2] at hoe; cases hoe; simp at hce
  refine wpAny_setField_rec zg2 (by simp) fun g3 _ sg3 => hE g3 ex (fun d o d1 _ d3 _ y => sg3.extBut _ _ d1 (sg2 _ _ d3 (sg1.extBut _ _ d1 y))) ⟨oe, sg3.extBut _ _ hez hoe, hce⟩
theorem zs_next {z U W i1 i2 : Addr} {x1 x2 : Str} {t1 t2 : Tok} {k1 k2 c1 c2 : Nat} {p q : Value} {Q : Option Value → Shared → Prop} (D : ApS z U W i1 i2)
    (hz : IsZip s.heap z U W .none) (hU : IsPair s.heap U (.ref i1) (.ref i2)) (hW : IsPair s.heap W p q)
    (f1 : SI s.heap i1 x1 t1 k1) (f2 : SI s.heap i2 x2 t2 k2) (e1 : x1.cps[k1]? = some c1) (e2 : x2.cps[k2]? = some c2)
    (hQ : ∀ h', IsZip h' z U W (rawInt s.heap.objs.size) → IsPair h' W (.str ⟨#[c1]⟩ s.toks) (.str ⟨#[c2]⟩ (s.toks + 1)) → SI h' i1 x1 t1 (k1 + 1) → SI h' i2 x2 t2 (k2 + 1) →
      IsPair h' s.heap.objs.size (.str ⟨#[c1]⟩ s.toks) (.str ⟨#[c2]⟩ (s.toks + 1)) → h'.objs.size = s.heap.objs.size + 1 →
      (∀ d o, d ≠ z → d ≠ W → d ≠ i1 → d ≠ i2 → s.heap.get? d = some o → h'.get? d = some o) → Q (some (.ref s.heap.objs.size)) { s with heap := h', toks := s.toks + 1 + 1 }) :
    wpAny (model prog w) A (pyNext (.ref z)) Q E s := by
  have hT : s.TypeIs (.ref z) "zip" := ⟨_, hz, rfl⟩
  unfold pyNext
  exact wpAny_bind (wpAny_attempt (wpAny_callSpecial?_slot (name := Str.ofString "__next__") hT F.slot_zip_next
    (wpAny_call_entry F.slot_zip_next hT F.entry_zip_next
      (zs_item D hz hU hW f1 f2 e1 e2 fun h' a1 a2 a3 a4 a5 a6 a7 => wpAny_pure (hQ h' a1 a2 a3 a4 a5 a6 a7)) (F.args_zip_next_1 _))))
theorem zs_stop {z U W i1 i2 : Addr} {x1 x2 : Str} {t1 t2 : Tok} {k1 k2 : Nat} {p q : Value} {Q : Option Value → Shared → Prop} (hh : A.handled = none) (D : ApS z U W i1 i2)
    (hz : IsZip s.heap z U W .none) (hU : IsPair s.heap U (.ref i1) (.ref i2)) (hW : IsPair s.heap W p q)
    (f1 : SI s.heap i1 x1 t1 k1) (f2 : SI s.heap i2 x2 t2 k2) (he : x1.cps[k1]? = none)
    (hQ : ∀ h', (∀ d o, d ≠ z → d ≠ W → d ≠ i1 → d ≠ i2 → s.heap.get? d = some o → h'.get? d = some o) → Q none { s with heap := h' }) : wpAny (model prog w) A (pyNext (.ref z)) Q E s := by
  have hT : s.TypeIs (.ref z) "zip" := ⟨_, hz, rfl⟩
  unfold pyNext
  refine wpAny_bind (wpAny_attempt (wpAny_callSpecial?_slot (name := Str.ofString "__next__") hT F.slot_zip_next
    (wpAny_call_entry F.slot_zip_next hT F.entry_zip_next (zs_end hh D hz hU hW f1 f2 he fun h' e hk hx => ?_) (F.args_zip_next_1 _))))
  obtain ⟨o, ho, hc⟩ := hx
  refine wpAny_bind (wpAny_isInstance (T := "StopIteration") (b := true) ⟨o, ho, hc⟩ isSubtype_stop ?_)
  exact wpAny_pure (hQ _ hk)
end
abbrev zh1 (h : Heap) (x1 : Str) (t1 : Tok) : Heap := h.push { cls := .type "str_ascii_iterator", data := .fields #[.str x1 t1, .int 0 0] }
abbrev zh2 (h : Heap) (x1 x2 : Str) (t1 t2 : Tok) : Heap := (zh1 h x1 t1).push { cls := .type "str_ascii_iterator", data := .fields #[.str x2 t2, .int 0 0] }
abbrev zh3 (h : Heap) (x1 x2 : Str) (t1 t2 : Tok) : Heap := (zh2 h x1 x2 t1 t2).push { cls := .type "tuple", data := .seq #[.ref h.objs.size, .ref (zh1 h x1 t1).objs.size] }
abbrev zh4 (h : Heap) (x1 x2 : Str) (t1 t2 : Tok) : Heap := (zh3 h x1 x2 t1 t2).push { cls := .type "tuple", data := .seq #[.none, .none] }
abbrev zh5 (h : Heap) (x1 x2 : Str) (t1 t2 : Tok) : Heap := (zh4 h x1 x2 t1 t2).push { cls := .type "zip", data := .fields #[.none, .bool false, .bool false, .ref (zh2 h x1 x2 t1 t2).objs.size, .ref (zh3 h x1 x2 t1 t2).objs.size] }
set_option maxHeartbeats 4000000 in
theorem zs_new (x1 x2 : Str) (t1 t2 : Tok) (a1 : x1.cps.all (· < 128) = true) (a2 : x2.cps.all (· < 128) = true) :
    Meets (Builtin.«zip.__new__» ⟨[.type "zip", .str x1 t1, .str x2 t2], []⟩) (fun _ R s =>
      R (.ok (.ret (.ref (zh4 s.heap x1 x2 t1 t2).objs.size))) { s with heap := zh5 s.heap x1 x2 t1 t2 }) :=
  .of_wp fun prog w A R s h => by
    obtain ⟨hp, g, d, tk, os⟩ := s
    have hsub := sub_zip
    wp_walk using wpAny_pyIter_ascii (s := ⟨hp, g, d, tk, os⟩) (t := t1) a1, wpAny_pyIter_ascii (s := ⟨hp.push { cls := .type "str_ascii_iterator", data := .fields #[.str x1 t1, .int 0 0] }, g, d, tk, os⟩) (t := t2) a2
    exact ⟨_, rfl, h⟩
end EV

end

section
set_option Elab.async false
set_option linter.all false
set_option maxRecDepth 100000
namespace EV
open PySem PySem.Spec PyProof.Rows L2
section
variable {prog : Program} {w : World} {A : Around} {E : Value → Shared → Prop} {s : Shared}
theorem call_zipS {x1 x2 : Str} {t1 t2 : Tok} {Q : Value → Shared → Prop} (a1 : x1.cps.all (· < 128) = true) (a2 : x2.cps.all (· < 128) = true)
    (h : ∀ h', IsZip h' (s.heap.objs.size + 4) (s.heap.objs.size + 2) (s.heap.objs.size + 3) .none → IsPair h' (s.heap.objs.size + 2) (.ref s.heap.objs.size) (.ref (s.heap.objs.size + 1)) →
      IsPair h' (s.heap.objs.size + 3) .none .none → SI h' s.heap.objs.size x1 t1 0 → SI h' (s.heap.objs.size + 1) x2 t2 0 →
      (∀ c o, s.heap.get? c = some o → h'.get? c = some o) → Q (.ref (s.heap.objs.size + 4)) { s with heap := h' }) :
    wpAny (model prog w) A (call (.type "zip") [.str x1 t1, .str x2 t2]) Q E s := by
  refine callType_new F.called_zip (by decide) (F.typeCall_zip_2 _ _) (F.newCall_zip_2 _ _) (fun obj => F.args_object_init_3 obj _ _) F.entry_zip_new
    (zs_new x1 x2 t1 t2 a1 a2) ?_
  have y1 : (zh1 s.heap x1 t1).objs.size = s.heap.objs.size + 1 := Heap.size_push ..
  have y2 : (zh2 s.heap x1 x2 t1 t2).objs.size = s.heap.objs.size + 2 := by rw [Heap.size_push, y1]
  have y3 : (zh3 s.heap x1 x2 t1 t2).objs.size = s.heap.objs.size + 3 := by rw [Heap.size_push, y2]
  have y4 : (zh4 s.heap x1 x2 t1 t2).objs.size = s.heap.objs.size + 4 := by rw [Heap.size_push, y3]
  have g5 : (zh5 s.heap x1 x2 t1 t2).get? (zh4 s.heap x1 x2 t1 t2).objs.size = some _ := Heap.get?_push_size _ rfl
  have g4 : (zh5 s.heap x1 x2 t1 t2).get? (zh3 s.heap x1 x2 t1 t2).objs.size = some _ := Heap.get?_push_of_some _ (Heap.get?_push_size _ rfl)
  have g3 : (zh5 s.heap x1 x2 t1 t2).get? (zh2 s.heap x1 x2 t1 t2).objs.size = some _ := Heap.get?_push_of_some _ (Heap.get?_push_of_some _ (Heap.get?_push_size _ rfl))
  have g2 : (zh5 s.heap x1 x2 t1 t2).get? (zh1 s.heap x1 t1).objs.size = some _ := Heap.get?_push_of_some _ (Heap.get?_push_of_some _ (Heap.get?_push_of_some _ (Heap.get?_push_size _ rfl)))
  have g1 : (zh5 s.heap x1 x2 t1 t2).get? s.heap.objs.size = some _ := Heap.get?_push_of_some _ (Heap.get?_push_of_some _ (Heap.get?_push_of_some _ (Heap.get?_push_of_some _ (Heap.get?_push_size _ rfl))))
  show _ ∧ _
  rw [y2, y3, y4] at g5
  rw [y1, y2] at g3
  rw [y3] at g4
  rw [y1] at g2
  rw [y4]
  exact ⟨⟨_, g5, rfl⟩, h _ g5 g3 g4 ⟨_, g1, rfl, rfl⟩ ⟨_, g2, rfl, rfl⟩ fun c o x =>
    Heap.get?_push_of_some _ (Heap.get?_push_of_some _ (Heap.get?_push_of_some _ (Heap.get?_push_of_some _ (Heap.get?_push_of_some _ x))))⟩
end
/-- two texts, the first not the longer -/
def IpS (x y : Str) : ItP :=
  ⟨fun i _ => i < x.cps.size ∧ i < y.cps.size, fun i _ vs => ∃ c d, x.cps[i]? = some c ∧ y.cps[i]? = some d ∧ vs = [.str ⟨#[c]⟩, .str ⟨#[d]⟩], fun i _ => x.cps.size ≤ i⟩
theorem turn_zipS {P : Program} {w : World} {K : PySem.W.Frag} {elts : List Expr} {kk : Nat} {tpos : Pos} {x y : Str} {t u : Tok} {z U W i1 i2 : Addr} (D : ApS z U W i1 i2) :
    TurnP P w K (.Tuple elts kk tpos) (IpS x y) [z, U, W, i1, i2] z (fun i h => IsZip h z U W .none ∧ IsPair h U (.ref i1) (.ref i2) ∧ (∃ p q, IsPair h W p q) ∧ SI h i1 x t i ∧ SI h i2 y u i) where
  obj := fun i h st c hc => by
    obtain ⟨hz, hU, ⟨p, q, hW⟩, ⟨o1, e1, _, d1⟩, ⟨o2, e2, _, d2⟩⟩ := st
    have e' : c = z ∨ c = U ∨ c = W ∨ c = i1 ∨ c = i2 := by simpa using hc
    rcases e' with j | j | j | j | j
    · rw [j]; exact ⟨_, hz, fun v r => nomatch r⟩
    · rw [j]; exact ⟨_, hU, fun v r => nomatch r⟩
    · rw [j]; exact ⟨_, hW, fun v r => nomatch r⟩
    · rw [j]; exact ⟨o1, e1, fun v r => by rw [d1] at r; cases r⟩
    · rw [j]; exact ⟨o2, e2, fun v r => by rw [d2] at r; cases r⟩
  keep := fun i h h' st k => by
    obtain ⟨hz, hU, ⟨p, q, hW⟩, ⟨o1, e1, r1⟩, ⟨o2, e2, r2⟩⟩ := st
    exact ⟨k z (by simp) _ hz, k U (by simp) _ hU, ⟨p, q, k W (by simp) _ hW⟩, ⟨o1, k i1 (by simp) o1 e1, r1⟩, ⟨o2, k i2 (by simp) o2 e2, r2⟩⟩
  item := by
    intro X hP hw hK hc i pins s σ H E I hf st hg
    subst hP hw hK
    obtain ⟨hz, hU, ⟨p, q, hW⟩, h1, h2⟩ := st
    obtain ⟨hg1, hg2⟩ : i < x.cps.size ∧ i < y.cps.size := hg
    obtain ⟨c, hx⟩ : ∃ c, x.cps[i]? = some c := ⟨_, Array.getElem?_eq_getElem hg1⟩
    obtain ⟨d, hy⟩ : ∃ d, y.cps[i]? = some d := ⟨_, Array.getElem?_eq_getElem hg2⟩
    have hzl : z < s.heap.objs.size := Heap.lt_size hz
    refine zs_next D hz hU hW h1 h2 hx hy fun h' z' W' h1' h2' hT hsz hk => ?_
    refine ⟨_, rfl, wpAny_letOwnedTupleGo_zip (s := { s with heap := h', toks := s.toks + 1 + 1 }) z' fun h'' z'' sb => ?_⟩
    have hT2 : h''.get? s.heap.objs.size = some { cls := .type "tuple", data := .seq #[.str ⟨#[c]⟩ s.toks, .str ⟨#[d]⟩ (s.toks + 1)] } := (sb.2 _ (Nat.ne_of_gt hzl)).trans hT
    have I1 : Inv X pins σ H { s with heap := h'', toks := s.toks + 1 + 1 } :=
      I.turnedL (ch := [z, U, W, i1, i2]) (fun c o hb j => (sb.2 c (fun e => hb (by simp [e]))).trans (hk c o (fun e => hb (by simp [e])) (fun e => hb (by simp [e])) (fun e => hb (by simp [e])) (fun e => hb (by simp [e])) j)) hf
    obtain ⟨oa, ea, ra⟩ := h1'
    obtain ⟨ob, eb, rb⟩ := h2'
    refine ⟨[.str ⟨#[c]⟩, .str ⟨#[d]⟩], [.str ⟨#[c]⟩ s.toks, .str ⟨#[d]⟩ (s.toks + 1)], I1, ⟨_, hT2, rfl, _, rfl⟩, .cons ⟨_, rfl⟩ (.cons ⟨_, rfl⟩ .nil), ⟨_, _, hx, hy, rfl⟩, z'', ?_, ⟨.str ⟨#[c]⟩ s.toks, .str ⟨#[d]⟩ (s.toks + 1), ?_⟩, ⟨oa, ?_, ra⟩, ⟨ob, ?_, rb⟩⟩
    · exact (sb.2 _ D.Uz).trans (hk _ _ D.Uz D.UV D.Ua D.Ub hU)
    · exact (sb.2 _ D.Vz).trans W'
    · exact (sb.2 _ D.az).trans ea
    · exact (sb.2 _ D.bz).trans eb
  done := by
    intro X hP hw hK hc i pins s σ H E I hf st hg
    subst hP hw hK
    obtain ⟨hz, hU, ⟨p, q, hW⟩, h1, h2⟩ := st
    exact zs_stop (I.ok.hd hc) D hz hU hW h1 h2 (Array.getElem?_eq_none hg) fun h' hk => ⟨rfl, I.turnedL (t' := s.toks) (ch := [z, U, W, i1, i2]) (fun c o hb j =>
      hk c o (fun e => hb (by simp [e])) (fun e => hb (by simp [e])) (fun e => hb (by simp [e])) (fun e => hb (by simp [e])) j) hf⟩
theorem aps (n : Nat) : ApS (n + 4) (n + 2) (n + 3) n (n + 1) :=
  ⟨by show (n + 2 : Nat) ≠ n + 4; omega, by show (n + 3 : Nat) ≠ n + 4; omega, by show (n : Nat) ≠ n + 4; omega, by show (n + 1 : Nat) ≠ n + 4; omega, by show (n + 2 : Nat) ≠ n + 3; omega,
    by show (n + 2 : Nat) ≠ n; omega, by show (n + 2 : Nat) ≠ n + 1; omega, by show (n + 3 : Nat) ≠ n; omega, by show (n + 3 : Nat) ≠ n + 1; omega, by show (n : Nat) ≠ n + 1; omega⟩
theorem pip_zipS {X : Cx} {e e2 : Expr} {ta : TA} {p pos tpos : Pos} {elts : List Expr} {kk : Nat} (hg : Gl X "zip") (hm : X.mg "zip" = none) (ha : PA X [e, e2] ta)
    (hs : starEach [e, e2] X.env = (false, eval e X.env) :: starEach [e2] X.env) (hpl : (backTo pos (starEach [e2] X.env)).any (·.1) = false) :
    PIP X (.Tuple elts kk tpos) (.Call (.Name "zip" p) [e, e2] [] pos) (fun σ H R => ta σ H fun vs H1 => ∃ x y, vs = [.str x, .str y] ∧ x.cps.all (· < 128) = true ∧ y.cps.all (· < 128) = true ∧ R (IpS x y) H1) := by
  intro pins s σ H R I h
  refine Call_ (ld_blt I hg hm boot_zip5 (PyProof.Rows.callWith_type1 (thn (ha pos pins s σ H _ I h) fun us s1 ⟨vs, H1, I1, r1, q1⟩ => ?_) hs hpl))
  obtain ⟨x, y, ex, a1, a2, q⟩ := q1
  subst ex
  cases r1 with
  | cons r rr =>
    cases rr with
    | cons r' rr =>
      cases rr
      obtain ⟨t, rfl⟩ := r
      obtain ⟨u, rfl⟩ := r'
      refine call_zipS a1 a2 fun h' hz hU hW f1 f2 hk => wpAny_pyIter_zip hz ?_
      have I2 : Inv X pins σ H1 { s1 with heap := h' } := I1.kept (t' := s1.toks) hk
      refine ⟨s1.heap.objs.size + 4, [s1.heap.objs.size + 4, s1.heap.objs.size + 2, s1.heap.objs.size + 3, s1.heap.objs.size, s1.heap.objs.size + 1], _, _, H1, rfl, I2, turn_zipS (aps s1.heap.objs.size), ⟨hz, hU, ⟨_, _, hW⟩, f1, f2⟩, fun c hcm => ?_, q⟩
      have e' : c = s1.heap.objs.size + 4 ∨ c = s1.heap.objs.size + 2 ∨ c = s1.heap.objs.size + 3 ∨ c = s1.heap.objs.size ∨ c = s1.heap.objs.size + 1 := by simpa using hcm
      have hle : s1.heap.objs.size ≤ c := by
        rcases e' with j | j | j | j | j <;> rw [j]
        · exact Nat.le_add_right _ _
        · exact Nat.le_add_right _ _
        · exact Nat.le_add_right _ _
        · exact Nat.le_refl _
        · exact Nat.le_add_right _ _
      exact I1.fpOk hle (I1.hok.fresh hle)
end EV

end

section
set_option Elab.async false
set_option linter.all false
set_option maxRecDepth 100000
namespace EV
open PySem PySem.Spec PyProof.Rows L2
section
variable {Γ : Gm} {top : Bool} {X : Cx}
/-! ### three names at once (the opening rows as in the layer's rule for two) -/
theorem ps_par3 {i j k : Nat} {x y z : Str} {a b c : Expr} {ta : TA} {px py pz pt pos : Pos} {kt k2 pt2} (hc : X.calm = true) (hN : X.N.Nodup) (hi : X.N[i]? = some x) (hj : X.N[j]? = some y) (hk : X.N[k]? = some z) (hij : i ≠ j) (hik : i ≠ k) (hjk : j ≠ k)
    (hx : X.env.scope.names.lookup x = some .local) (hy : X.env.scope.names.lookup y = some .local) (hz : X.env.scope.names.lookup z = some .local) (ha : PA X [a, b, c] ta)
    (hw : swappedStores [.Tuple [.Name x px, .Name y py, .Name z pz] kt pt] (.Tuple [a, b, c] k2 pt2) X.env = pure (some [x, y, z])) :
    PS X (.Assign [.Tuple [.Name x px, .Name y py, .Name z pz] kt pt] (.Tuple [a, b, c] k2 pt2) pos) (fun D σ H => ta σ H fun vs H1 => ∃ u v w, vs = [u, v, w] ∧ D.nx (((σ.set i (some u)).set j (some v)).set k (some w)) H1) := by
  intro pins s σ H D I h
  rw [exec_Assign_arm]
  refine wpAny_bind (wpAny_standAt ?_)
  rw [show swapsWithSole [.Tuple [.Name x px, .Name y py, .Name z pz] kt pt] (.Tuple [a, b, c] k2 pt2) pos.line X.env = pure false from rfl]
  refine wpAny_bind (wpAny_pure ?_)
  rw [if_neg (by decide)]
  refine wpAny_bind (Tuple_ (thn (ha _ pins s σ H _ I h) fun us s1 ⟨vs, H1, I1, r1, q1⟩ => ?_))
  obtain ⟨v, w, w3, e1, q1⟩ := q1
  subst e1
  obtain ⟨u1, u2, u3, rfl, rv, rw', rw3⟩ : ∃ u1 u2 u3, us = [u1, u2, u3] ∧ RelV v u1 ∧ RelV w u2 ∧ RelV w3 u3 := by
    cases r1 with
    | cons p q =>
      cases q with
      | cons p' q' =>
        cases q' with
        | cons p2 q2 =>
          cases q2
          exact ⟨_, _, _, rfl, p, p', p2⟩
  refine wpAny_newObj_type ?_ (by show 3 ≤ sizeLine; decide)
  have I2 : Inv X pins σ H1 { s1 with heap := s1.heap.push { cls := .type "tuple", data := .seq [u1, u2, u3].toArray } } := I1.kept (t' := s1.toks) fun b o e => Heap.get?_push_of_some _ e
  rw [hw]
  refine wpAny_bind (wpAny_pure ?_)
  show wpAny (model X.prog X.w) X.A (do rule "assign.swapped-stores"; let items ← unpackItems (.ref s1.heap.objs.size) 3 none; assignInOrder [fun v => bindName X.env z v, fun v => bindName X.env y v, fun v => bindName X.env x v] items.reverse; pure Flow.next) _ _ _
  refine wpAny_bind (wpAny_rule (wpAny_bind (unpackItems_tuple (items := #[u1, u2, u3]) (I.ok.hd hc) (IsTup.new s1.heap _) fun h' hx' => ?_)))
  have I3 := I2.kept (h' := h') (t' := s1.toks) fun b o e => hx' b o (Nat.ne_of_lt (Heap.lt_size e)) e
  show wpAny _ _ (assignInOrder [fun v => bindName X.env z v, fun v => bindName X.env y v, fun v => bindName X.env x v] [u3, u2, u1] >>= fun _ => pure Flow.next) _ _ _
  refine wpAny_bind (assignInOrder_cons (wpAny_bindName (store_ok I3 hN hk (.inl hz) rw3 (fun s2 I4 => ?_) (.inr hz))))
  refine assignInOrder_cons (wpAny_bindName (store_ok I4 hN hj (.inl hy) rw' (fun s3 I5 => ?_) (.inr hy)))
  refine assignInOrder_cons (wpAny_bindName (store_ok I5 hN hi (.inl hx) rv (fun s4 I6 => assignInOrder_nil (wpAny_pure ?_)) (.inr hx)))
  have e : (((σ.set k (some w3)).set j (some w)).set i (some v)) = (((σ.set i (some v)).set j (some w)).set k (some w3)) := by
    rw [List.set_comm (some w) (some v) (Ne.symm hij), List.set_comm (some w3) (some v) (Ne.symm hik), List.set_comm (some w3) (some w) (Ne.symm hjk)]
  rw [e] at I6
  exact ⟨_, H1, I6, q1⟩
/-- a, b = divmod(x, y): the pair is kept by nobody -/
theorem ps_dvm (G : Good Γ top X) {is : List Nat} {es : List Expr} {k : Nat} {tp pos p p2 : Pos} {i j : Nat} {a b : Expr} {ta tb : TE} (hm : mNs Γ top X.env.scope [i, j] es = true) (hg : Gl X "divmod") (hn : X.mg "divmod" = none) (ha : PE X a ta) (hb : PE X b tb)
    (sa : noStar a = true) (sb : noStar b = true) :
    PS X (.Assign [.Tuple es k tp] (.Call (.Name "divmod" p) [a, b] [] p2) pos) (fun D σ H => ta σ H fun x H1 => tb σ H1 fun y H2 => match x, y with
      | .int c, .int d => CDiv c d ∧ D.nx ((σ.set i (some (.int (c / d)))).set j (some (.int (c % d)))) H2
      | _, _ => False) := by
  intro pins s σ H D I h
  refine wpAny_Assign_stores ?_ rfl rfl
  refine wpAny_Call_Name_kw (ld_blt I hg hn (show bootBuiltins "divmod" = some (.builtin "divmod") by decide +kernel) ?_)
  have s2 : starEach [b] X.env = [(false, eval b X.env)] := noStar_ok sb [] X.env
  refine PyProof.Rows.callWith_builtin1 (thn (pa_cons ha (pa_cons hb pa_nil s2) (noStar_ok sa [b] X.env) p2 pins s σ H (fun vs H2 => match vs with
      | [.int c, .int d] => CDiv c d ∧ D.nx ((σ.set i (some (.int (c / d)))).set j (some (.int (c % d)))) H2
      | _ => False) I ?_) fun us s1 ⟨vs, H1, I1, r1, q1⟩ => ?_) (noStar_ok sa [b] X.env) (by rw [s2]; rfl)
  · refine (show _ → _ from fun z => z) (?_ : tCons ta (tCons tb tNil) σ H _)
    show ta σ H fun x H1 => tb σ H1 fun y H2 => _
    have e1 : (fun (x : V) (H1 : Hp) => tb σ H1 fun y H2 => match x, y with
      | .int c, .int d => CDiv c d ∧ D.nx ((σ.set i (some (.int (c / d)))).set j (some (.int (c % d)))) H2
      | _, _ => False) = fun x H1 => tb σ H1 fun y H2 => (match [x, y] with
      | [.int c, .int d] => CDiv c d ∧ D.nx ((σ.set i (some (.int (c / d)))).set j (some (.int (c % d)))) H2
      | _ => False) := by
      funext x H1
      congr 1
      funext y H2
      cases x <;> cases y <;> rfl
    rw [e1] at h
    exact h
  · dsimp only at q1
    split at q1
    · next c d =>
      obtain ⟨⟨h1, h2⟩, q⟩ := q1
      obtain ⟨u, w', rfl, ⟨t, rfl⟩, ⟨t', rfl⟩⟩ := vals2 r1
      refine divmod_int (by omega) ?_ (.inl (PyProof.noPylong_small (by omega)))
      rw [Int.fdiv_eq_ediv_of_nonneg c (by omega), Int.fmod_eq_emod_of_nonneg c (by omega)]
      have I2 : Inv X pins σ H1 { s1 with heap := s1.heap.push { cls := .type "tuple", data := .seq #[.int (c / d) s1.toks, .int (c % d) (s1.toks + 1)] }, toks := s1.toks + 1 + 1 } := I1.kept fun b o e => Heap.get?_push_of_some _ e
      exact unpack_raw G (k := k) (its := [.int (c / d) s1.toks, .int (c % d) (s1.toks + 1)]) (vs := [.int (c / d), .int (c % d)]) (Q := D.nx) hm I2 ⟨_, Heap.get?_push_size _ rfl, rfl, _, rfl⟩ (.cons ⟨_, rfl⟩ (.cons ⟨_, rfl⟩ .nil)) rfl q
    · exact q1.elim
/-- x op= e -/
theorem iop_ok : ∀ op : B2, PIp X op.py (rdAg op)
  | .add => by
    intro pins s σ H x y v u Q I rx ry h
    simp only [rdAg] at h
    split at h
    · exact iop_add pins s σ H _ _ v u Q I rx ry ⟨_, _, rfl, rfl, h⟩
    · exact iop_add_str pins s σ H _ _ v u Q I rx ry ⟨_, _, rfl, rfl, h.1, h.2⟩
    · exact h.elim
  | .sub => by
    intro pins s σ H x y v u Q I rx ry h
    simp only [rdAg] at h
    split at h
    · exact iop_sub pins s σ H _ _ v u Q I rx ry ⟨_, _, rfl, rfl, h⟩
    · exact h.elim
  | .mul => fun _ _ _ _ _ _ _ _ _ _ _ _ h => False.elim h
  | .fdiv => fun _ _ _ _ _ _ _ _ _ _ _ _ h => False.elim h
  | .mod => fun _ _ _ _ _ _ _ _ _ _ _ _ h => False.elim h
  | .pow => fun _ _ _ _ _ _ _ _ _ _ _ _ h => False.elim h

/-! ### statements -/
def foldsNone : Expr → Expr → Bool
  | .Tuple _ _ _, .Tuple vs _ _ => vs.all (foldedForSure 8)
  | .Tuple _ _ _, _ => true
  | .Name _ _, _ => true
  | _, _ => false
theorem foldsNone_ok {t e : Expr} {env : Env} (h : foldsNone t e = true) : swappedStores [t] e env = pure none := by
  cases t <;> first
    | (exact absurd (show false = true from h) Bool.false_ne_true)
    | (cases e <;> rfl)
    | (cases e <;> first
        | rfl
        | (rename_i ts k p vs k2 p2
           have h : vs.all (foldedForSure 8) = true := h
           show (if (!(ts.length == 2 || ts.length == 3) || vs.length != ts.length || env.blockKind != .function) = true then _ else _) = _
           split
           · rfl
           · split
             · rfl
             · dsimp only
               split
               · rfl
               · first | rfl | rw [if_pos h]))
def isDivmod : Expr → Option (Expr × Expr)
  | .Call (.Name x _) [a, b] [] _ => if x = ("divmod" : Str) then some (a, b) else none
  | _ => none
theorem isDivmod_ok {e a b : Expr} (h : isDivmod e = some (a, b)) : ∃ p q, e = .Call (.Name ("divmod" : Str) p) [a, b] [] q := by
  unfold isDivmod at h
  split at h
  · split at h
    · next e1 =>
      cases (Option.some.inj h)
      subst e1
      exact ⟨_, _, rfl⟩
    · cases h
  · cases h
def isAppend : Expr → Option (Expr × Expr × Bool)
  | .Call (.Attribute o x q) [a] [] p => if x = ("append" : Str) then some (o, a, q.endLine == p.line) else none
  | _ => none
theorem isAppend_ok {e o a : Expr} {b : Bool} (h : isAppend e = some (o, a, b)) : ∃ p q, e = .Call (.Attribute o ("append" : Str) q) [a] [] p ∧ b = (q.endLine == p.line) := by
  unfold isAppend at h
  split at h
  · split at h
    · next e1 =>
      cases (Option.some.inj h)
      subst e1
      exact ⟨_, _, rfl, rfl⟩
    · cases h
  · cases h
def isPar2 : Expr → Expr → Option (Expr × Expr × Expr × Expr)
  | .Tuple [x, y] _ _, .Tuple [a, b] _ _ => some (x, y, a, b)
  | _, _ => none
theorem isPar2_ok {t e x y a b : Expr} (h : isPar2 t e = some (x, y, a, b)) : ∃ k p k2 p2, t = .Tuple [x, y] k p ∧ e = .Tuple [a, b] k2 p2 := by
  unfold isPar2 at h
  split at h
  · cases (Option.some.inj h)
    exact ⟨_, _, _, _, rfl, rfl⟩
  · cases h
def isPar3 : Expr → Expr → Option (Expr × Expr × Expr × Expr × Expr × Expr)
  | .Tuple [x, y, z] _ _, .Tuple [a, b, c] _ _ => some (x, y, z, a, b, c)
  | _, _ => none
theorem isPar3_ok {t e x y z a b c : Expr} (h : isPar3 t e = some (x, y, z, a, b, c)) : ∃ k p k2 p2, t = .Tuple [x, y, z] k p ∧ e = .Tuple [a, b, c] k2 p2 := by
  unfold isPar3 at h
  split at h
  · cases (Option.some.inj h)
    exact ⟨_, _, _, _, rfl, rfl⟩
  · cases h

theorem star_f {a : Expr} (z : (match a with | .Starred _ _ => true | _ => false) = true) (h : noStar a = true) : False := by
  cases a <;> first | (cases z; done) | (cases h; done)
def par2B (sc : Scope) (x y : Str) (px py : Pos) (a b : Expr) : Bool :=
  (match sc.kind with | .function => true | _ => false) && decide (sc.names.lookup x = some .local) && decide (sc.names.lookup y = some .local) && (py.line == px.line) && decide (x ≠ y) && noStar a && noStar b &&
    !(foldedForSure 8 a && foldedForSure 8 b) && !(constantsAlone 8 a && constantsAlone 8 b)
theorem par2_ok {env : Env} {x y : Str} {px py pt pt2 : Pos} {kt k2 : Nat} {a b : Expr} (h : par2B env.scope x y px py a b = true) :
    swappedStores [.Tuple [.Name x px, .Name y py] kt pt] (.Tuple [a, b] k2 pt2) env = pure (some [x, y]) := by
  unfold par2B at h
  simp only [Bool.and_eq_true, decide_eq_true_eq, Bool.not_eq_true'] at h
  obtain ⟨⟨⟨⟨⟨⟨⟨⟨h0, h1⟩, h2⟩, h3⟩, h4⟩, h5⟩, h6⟩, h7⟩, h8⟩ := h
  have hk : env.scope.kind = .function := by
    split at h0
    · assumption
    · cases h0
  have hb : env.blockKind = .function := by unfold Env.blockKind; rw [hk]; rfl
  have k1 : env.kindOf x = some .local := h1
  have k2 : env.kindOf y = some .local := h2
  have ln : py.line = px.line := by simpa using h3
  have pl : (Expr.Name x px).pos.line = px.line := rfl
  unfold swappedStores
  simp only [hb, k1, k2, h7, h8, ln, pl, List.length_cons, List.length_nil, List.any_cons, List.any_nil, List.head?_cons, Option.map_some, Option.getD_some, List.filterMap_cons, List.filterMap_nil, List.all_cons, List.all_nil, beq_self_eq_true, Bool.and_self, if_true,
    Bool.or_false, Bool.false_or, Bool.and_true, bne_self_eq_false, Bool.not_true, Bool.or_self]
  have ed : ([x, y] : List Str).eraseDups = [x, y] := by
    rw [List.eraseDups_cons]
    have e1 : ([y] : List Str).filter (fun b => !b == x) = [y] := by
      rw [List.filter_cons, if_pos (by simp; exact fun e => h4 e.symm), List.filter_nil]
    rw [e1]
    rfl
  simp [ed]
  rintro (z | z)
  · exact (star_f z h5).elim
  · exact (star_f z h6).elim

def par3B (sc : Scope) (x y z : Str) (px py pz : Pos) (a b c : Expr) : Bool :=
  (match sc.kind with | .function => true | _ => false) && decide (sc.names.lookup x = some .local) && decide (sc.names.lookup y = some .local) && decide (sc.names.lookup z = some .local) && (py.line == px.line) && (pz.line == px.line) && decide (x ≠ y) && decide (x ≠ z) && decide (y ≠ z) && noStar a && noStar b && noStar c &&
    !(foldedForSure 8 a && (foldedForSure 8 b && foldedForSure 8 c)) && !(constantsAlone 8 a && (constantsAlone 8 b && constantsAlone 8 c))
theorem par3_ok {env : Env} {x y z : Str} {px py pz pt pt2 : Pos} {kt k2 : Nat} {a b c : Expr} (h : par3B env.scope x y z px py pz a b c = true) :
    swappedStores [.Tuple [.Name x px, .Name y py, .Name z pz] kt pt] (.Tuple [a, b, c] k2 pt2) env = pure (some [x, y, z]) := by
  unfold par3B at h
  simp only [Bool.and_eq_true, decide_eq_true_eq] at h
  obtain ⟨⟨⟨⟨⟨⟨⟨⟨⟨⟨⟨⟨⟨h0, h1⟩, h2⟩, h2z⟩, h3⟩, h3z⟩, h4⟩, h4z⟩, h4y⟩, h5⟩, h6⟩, h6z⟩, h7⟩, h8⟩ := h
  simp only [Bool.not_eq_true'] at h7 h8
  have hk : env.scope.kind = .function := by
    split at h0
    · assumption
    · cases h0
  have hb : env.blockKind = .function := by unfold Env.blockKind; rw [hk]; rfl
  have k1 : env.kindOf x = some .local := h1
  have k2 : env.kindOf y = some .local := h2
  have k3 : env.kindOf z = some .local := h2z
  have ln : py.line = px.line := by simpa using h3
  have ln3 : pz.line = px.line := by simpa using h3z
  have pl : (Expr.Name x px).pos.line = px.line := rfl
  unfold swappedStores
  simp only [hb, k1, k2, k3, h7, h8, ln, ln3, pl, List.length_cons, List.length_nil, List.any_cons, List.any_nil, List.head?_cons, Option.map_some, Option.getD_some, List.filterMap_cons, List.filterMap_nil, List.all_cons, List.all_nil, beq_self_eq_true, Bool.and_self, if_true,
    Bool.or_false, Bool.false_or, Bool.and_true, bne_self_eq_false, Bool.not_true, Bool.or_self]
  have ed : ([x, y, z] : List Str).eraseDups = [x, y, z] := by
    rw [List.eraseDups_cons]
    have e1 : ([y, z] : List Str).filter (fun b => !b == x) = [y, z] := by
      rw [List.filter_cons, if_pos (by simp; exact fun e => h4 e.symm), List.filter_cons, if_pos (by simp; exact fun e => h4z e.symm), List.filter_nil]
    rw [e1, List.eraseDups_cons]
    have e2 : ([z] : List Str).filter (fun b => !b == y) = [z] := by
      rw [List.filter_cons, if_pos (by simp; exact fun e => h4y e.symm), List.filter_nil]
    rw [e2]
    rfl
  simp [ed]
  rintro (z | z | z)
  · exact (star_f z h5).elim
  · exact (star_f z h6).elim
  · exact (star_f z h6z).elim

/-! ### the checker of statements -/
def srcM (Γ : Gm) (n : Nat) (sc : Scope) : Ik → Exs → Expr → Bool
  | .lst, .cons a .nil, e => noSet e && mE Γ n sc a e
  | .tup, .cons a .nil, e => noSet e && mE Γ n sc a e
  | .str, .cons a .nil, e => noSet e && mE Γ n sc a e
  | .rng1, .cons a .nil, e => (match callOf "range" e with
    | some [x] => glB sc "range" && decide (("range" : Str) ∈ Γ.bl) && noStar x && mE Γ n sc a x
    | _ => false)
  | .rng2, .cons a (.cons b .nil), e => (match callOf "range" e with
    | some [x, y] => glB sc "range" && decide (("range" : Str) ∈ Γ.bl) && noStar x && noStar y && mE Γ n sc a x && mE Γ n sc b y
    | _ => false)
  | .enum, .cons a .nil, e => (match callOf "enumerate" e with
    | some [x] => glB sc "enumerate" && decide (("enumerate" : Str) ∈ Γ.bl) && noStar x && mE Γ n sc a x
    | _ => false)
  | .zip, .cons a (.cons b .nil), e => (match callOf "zip" e with
    | some [x, y] => glB sc "zip" && decide (("zip" : Str) ∈ Γ.bl) && noStar x && noStar y && mE Γ n sc a x && mE Γ n sc b y
    | _ => false)
  | .zipS, .cons a (.cons b .nil), e => (match callOf "zip" e with
    | some [x, y] => glB sc "zip" && decide (("zip" : Str) ∈ Γ.bl) && noStar x && noStar y && mE Γ n sc a x && mE Γ n sc b y
    | _ => false)
  | _, _, _ => false
def isPairK : Ik → Bool
  | .enum => true | .zip => true | .zipS => true
  | _ => false
def pairOk : Tg → Ik → Bool
  | .nm _, .enum => false
  | .nm _, .zip => false
  | .nm _, .zipS => false
  | _, _ => true
def mSs (f : Sx → Stmt → Bool) : Sxs → List Stmt → Bool
  | .nil, [] => true
  | .cons s r, t :: ts => f s t && mSs f r ts
  | _, _ => false
def mS (Γ : Gm) (top : Bool) : Nat → Scope → Sx → Stmt → Bool
  | 0, _, _, _ => false
  | n + 1, sc, sx, st => match sx with
    | .pass => (match st with | .Pass _ => true | _ => false)
    | .brk => (match st with | .Break _ => true | _ => false)
    | .cont => (match st with | .Continue _ => true | _ => false)
    | .nev => true
    | .retN => (match st with | .Return none _ => true | _ => false)
    | .expr e => (match st with | .Expr x _ => noComp x && mE Γ n sc e x | _ => false)
    | .ret e => (match st with | .Return (some x) _ => mE Γ n sc e x | _ => false)
    | .asg (.nm i) e => (match st with | .Assign [t] x _ => noComp x && mN Γ top sc i t && mE Γ n sc e x | _ => false)
    | .asg (.tup is) e => (match st with | .Assign [t] x _ => noComp x && foldsNone t x && mG Γ top sc (.tup is) t && mE Γ n sc e x | _ => false)
    | .par2 i j a b => (match st with
      | .Assign [t] x _ => (match isPar2 t x with
        | some (u, v, p, q) => (match u, v with
          | .Name xu pu, .Name xv pv => decide (Γ.N[i]? = some xu) && decide (Γ.N[j]? = some xv) && decide (i ≠ j) && par2B sc xu xv pu pv p q && mE Γ n sc a p && mE Γ n sc b q
          | _, _ => false)
        | none => false)
      | _ => false)
    | .par3 i j k a b c => (match st with
      | .Assign [t] x _ => (match isPar3 t x with
        | some (u, v, w, p, q, r) => (match u, v, w with
          | .Name xu pu, .Name xv pv, .Name xw pw => decide (Γ.N[i]? = some xu) && decide (Γ.N[j]? = some xv) && decide (Γ.N[k]? = some xw) && decide (i ≠ j) && decide (i ≠ k) && decide (j ≠ k) && par3B sc xu xv xw pu pv pw p q r && mE Γ n sc a p && mE Γ n sc b q && mE Γ n sc c r
          | _, _, _ => false)
        | none => false)
      | _ => false)
    | .dvm i j a b => (match st with
      | .Assign [t] x _ => (match vTup t, isDivmod x with
        | some es, some (p, q) => mNs Γ top sc [i, j] es && glB sc "divmod" && decide (("divmod" : Str) ∈ Γ.bl) && noStar p && noStar q && mE Γ n sc a p && mE Γ n sc b q
        | _, _ => false)
      | _ => false)
    | .aug i op e => (match st with | .AugAssign t o x _ => mN Γ top sc i t && decide (o = op.py) && mE Γ n sc e x | _ => false)
    | .ite c t f => (match st with | .If x a b _ => mT Γ n sc c x && mSs (mS Γ top n sc) t a && mSs (mS Γ top n sc) f b | _ => false)
    | .whl c b => (match st with | .While x a [] _ => mT Γ n sc c x && mSs (mS Γ top n sc) b a | _ => false)
    | .for_ g k src b => (match st with
      | .For t x a [] _ => mG Γ top sc g t && pairOk g k && srcM Γ n sc k src x && mSs (mS Γ top n sc) b a
      | _ => false)
    | .dput o k v => (match st with
      | .Assign [t] x _ => (match vSub t with
        | some (y, z) => noComp x && mE Γ n sc o y && mE Γ n sc k z && mE Γ n sc v x
        | none => false)
      | _ => false)
    | .setLc j i k src elt => (match st with
      | .Assign [t] x _ => (match vLc x, vName t with
        | some (x', [⟨tg, it, [], 0⟩], scope), some y => decide (Γ.N[j]? = some y) && decide (sc.names.lookup y = some .local) && (match sc.kind with | .function => true | _ => false) && (t.pos.line == x.pos.line) && !(scope.names.any fun (n, k) => n == y && (k == .local || k == .cell)) && mE Γ n sc (.lc i k src elt) x
        | _, _ => false)
      | _ => false)
    | .app o a => (match st with
      | .Expr x _ => (match isAppend x with
        | some (y, z, true) => noSuper y && noStar z && mE Γ n sc o y && mE Γ n sc a z
        | _ => false)
      | _ => false)
theorem sound_Ss {f : Sx → Stmt → Bool} (hf : ∀ sx st, f sx st = true → PS X st (rdS Γ X.K sx)) : ∀ {xs : Sxs} {ts : List Stmt}, mSs f xs ts = true → PSs X ts (rdSs Γ X.K xs)
  | .nil, [], _ => fun pins s σ H D I h => pss_nil pins s σ H D I h
  | .nil, _ :: _, h => absurd (show false = true from h) Bool.false_ne_true
  | .cons _ _, [], h => absurd (show false = true from h) Bool.false_ne_true
  | .cons s r, t :: ts, h => by
    have h : (f s t && mSs f r ts) = true := h
    rw [Bool.and_eq_true] at h
    exact pss_cons (hf s t h.1) (sound_Ss hf h.2)
theorem forP_chk {chk : Hp → Prop} {is : List Nat} {tb : TS} {xs : List (List V)} {D : Ends} {σ : L2.St} {H : Hp} (h : forP chk is tb xs D σ H) : chk H := by
  cases xs <;> exact h.1
theorem pairG {g : Tg} {k : Ik} {sc : Scope} {tg : Expr} (hk : isPairK k = true) (hg : mG Γ top sc g tg = true) (hp : pairOk g k = true) : ∃ is es kk p, g = .tup is ∧ tg = .Tuple es kk p ∧ mNs Γ top sc is es = true := by
  cases g with
  | nm i => cases k <;> first | (cases hp; done) | (cases hk; done)
  | tup is =>
    simp only [mG] at hg
    split at hg
    · next es he =>
      obtain ⟨kk, p, rfl⟩ := vTup_ok he
      exact ⟨is, es, kk, p, rfl, rfl, hg⟩
    · cases hg
theorem sound_src (G : Good Γ top X) {n : Nat} {g : Tg} {tg x : Expr} {body : List Stmt} {tb : TS} {pos : Pos} (hg : mG Γ top X.env.scope g tg = true) (hb : PSs X body tb) : ∀ (k : Ik) (src : Exs),
    pairOk g k = true → srcM Γ n X.env.scope k src x = true → PS X (.For tg x body [] pos) (fun D σ H => rdA Γ X.K src σ H fun vs H1 => rdFor X.K g tb k vs D σ H1)
  | .lst, .cons a .nil, _, h => by
    have h : (noSet x && mE Γ n X.env.scope a x) = true := h
    rw [Bool.and_eq_true] at h
    have q := ps_for (pos := pos) (by rw [G.xe]; exact PassesOwn.never) G.calm (pi_list (tg := tg) (PE.mono (sound_E n G a x h.2))) (sound_G G hg) hb (noSet_fold h.1 X.env)
    intro pins s σ H D I hw
    refine q pins s σ H D I ⟨fun v H1 => rdFor X.K g tb .lst [v] D σ H1, fun v H1 z => ?_, hw⟩
    cases v with
    | ref b =>
      obtain ⟨xs, z⟩ := z
      exact ⟨b, rfl, ⟨xs, forL_chk z⟩, for_of_list z⟩
    | _ => exact False.elim z
  | .tup, .cons a .nil, _, h => by
    have h : (noSet x && mE Γ n X.env.scope a x) = true := h
    rw [Bool.and_eq_true] at h
    have q := ps_for (pos := pos) (by rw [G.xe]; exact PassesOwn.never) G.calm (pi_tup (tg := tg) (PE.mono (sound_E n G a x h.2))) (sound_G G hg) hb (noSet_fold h.1 X.env)
    intro pins s σ H D I hw
    refine q pins s σ H D I ⟨fun v H1 => rdFor X.K g tb .tup [v] D σ H1, fun v H1 z => ?_, hw⟩
    cases v with
    | ref b =>
      obtain ⟨xs, z⟩ := z
      exact ⟨b, rfl, ⟨xs, forL_chk z⟩, for_of_tup z⟩
    | _ => exact False.elim z
  | .str, .cons a .nil, _, h => by
    have h : (noSet x && mE Γ n X.env.scope a x) = true := h
    rw [Bool.and_eq_true] at h
    have q := ps_for (pos := pos) (by rw [G.xe]; exact PassesOwn.never) G.calm (pi_str (tg := tg) (PE.mono (sound_E n G a x h.2))) (sound_G G hg) hb (noSet_fold h.1 X.env)
    intro pins s σ H D I hw
    refine q pins s σ H D I ⟨fun v H1 => rdFor X.K g tb .str [v] D σ H1, fun v H1 z => ?_, hw⟩
    cases v with
    | str b => exact ⟨b, rfl, for_of_str z⟩
    | _ => exact False.elim z
  | .rng1, .cons a .nil, _, h => by
    simp only [srcM] at h
    split at h
    · next y hy =>
      obtain ⟨p, p2, rfl⟩ := callOf_ok hy
      simp only [Bool.and_eq_true, decide_eq_true_eq] at h
      obtain ⟨⟨⟨h1, h2⟩, h3⟩, h4⟩ := h
      have s1 := noStar_ok h3 [] X.env
      have q := ps_for (pos := pos) (by rw [G.xe]; exact PassesOwn.never) G.calm (pi_range1 (tg := tg) (p := p) (pos := p2) (show Gl X "range" from glB_ok h1) (G.bl _ h2) (PA.mono (pa_cons (sound_E n G a y h4) pa_nil s1)) s1) (sound_G G hg) hb (noSet_fold rfl X.env)
      intro pins s σ H D I hw
      refine q pins s σ H D I ⟨fun vs H1 => rdFor X.K g tb .rng1 vs D σ H1, fun vs H1 z => ?_, hw⟩
      simp only [rdFor] at z
      split at z
      · exact ⟨_, rfl, z.1.1, z.1.2, for_of_rng z.2⟩
      · exact z.elim
    · cases h
  | .rng2, .cons a (.cons b .nil), _, h => by
    simp only [srcM] at h
    split at h
    · next y y2 hy =>
      obtain ⟨p, p2, rfl⟩ := callOf_ok hy
      simp only [Bool.and_eq_true, decide_eq_true_eq] at h
      obtain ⟨⟨⟨⟨⟨h1, h2⟩, h3⟩, h3'⟩, h4⟩, h5⟩ := h
      have s1 := noStar_ok h3' [] X.env
      have s2 := noStar_ok h3 [y2] X.env
      have q := ps_for (pos := pos) (by rw [G.xe]; exact PassesOwn.never) G.calm (pi_range2 (tg := tg) (p := p) (pos := p2) (show Gl X "range" from glB_ok h1) (G.bl _ h2) (PA.mono (pa_cons (sound_E n G a y h4) (pa_cons (sound_E n G b y2 h5) pa_nil s1) s2)) (by rw [s2, s1]; rfl) s1) (sound_G G hg) hb (noSet_fold rfl X.env)
      intro pins s σ H D I hw
      refine q pins s σ H D I ⟨fun vs H1 => rdFor X.K g tb .rng2 vs D σ H1, fun vs H1 z => ?_, hw⟩
      simp only [rdFor] at z
      split at z
      · exact ⟨_, _, rfl, z.1, for_of_rng z.2⟩
      · exact z.elim
    · cases h
  | .enum, .cons a .nil, hp, h => by
    obtain ⟨is, es, kk, pt, rfl, rfl, hm⟩ := pairG (by rfl) hg hp
    simp only [srcM] at h
    split at h
    · next y hy =>
      obtain ⟨p, p2, rfl⟩ := callOf_ok hy
      simp only [Bool.and_eq_true, decide_eq_true_eq] at h
      obtain ⟨⟨⟨h1, h2⟩, h3⟩, h4⟩ := h
      have s1 := noStar_ok h3 [] X.env
      have q := ps_forP (pos := pos) (tp := pt) (k := kk) G (pip_enum (p := p) (pos := p2) (show Gl X "enumerate" from glB_ok h1) (G.bl _ h2) (PA.mono (pa_cons (sound_E n G a y h4) pa_nil s1)) s1) hm hb (noSet_fold rfl X.env)
      intro pins s σ H D I hw
      refine q pins s σ H D I ⟨fun vs H1 => rdFor X.K (.tup is) tb .enum vs D σ H1, fun vs H1 z => ?_, hw⟩
      simp only [rdFor] at z
      split at z
      · next e =>
        cases e
        obtain ⟨xs, z⟩ := z
        refine ⟨_, xs, rfl, forP_chk z, _, _, fun i H hc hi => ?_, fun i H hc hi => ?_, z⟩
        · rw [enumV_len] at hi
          have hx : xs[i]? = some xs[i] := List.getElem?_eq_getElem hi
          refine ⟨⟨xs, _, hc, hx⟩, ?_⟩
          rintro vs ⟨w, rfl, hw⟩
          rw [enumV_get xs 0 i w (hw xs hc)]
          simp
        · rw [enumV_len] at hi
          exact ⟨xs, hc, hi⟩
      · exact z.elim
    · cases h
  | .zip, .cons a (.cons b .nil), hp, h => by
    obtain ⟨is, es, kk, pt, rfl, rfl, hm⟩ := pairG (by rfl) hg hp
    simp only [srcM] at h
    split at h
    · next y y2 hy =>
      obtain ⟨p, p2, rfl⟩ := callOf_ok hy
      simp only [Bool.and_eq_true, decide_eq_true_eq] at h
      obtain ⟨⟨⟨⟨⟨h1, h2⟩, h3⟩, h3'⟩, h4⟩, h5⟩ := h
      have s1 := noStar_ok h3' [] X.env
      have s2 := noStar_ok h3 [y2] X.env
      have q := ps_forP (pos := pos) (tp := pt) (k := kk) G (pip_zip (p := p) (pos := p2) (show Gl X "zip" from glB_ok h1) (G.bl _ h2) (PA.mono (pa_cons (sound_E n G a y h4) (pa_cons (sound_E n G b y2 h5) pa_nil s1) s2)) s2 (by rw [s1]; rfl)) hm hb (noSet_fold rfl X.env)
      intro pins s σ H D I hw
      refine q pins s σ H D I ⟨fun vs H1 => rdFor X.K (.tup is) tb .zip vs D σ H1, fun vs H1 z => ?_, hw⟩
      simp only [rdFor] at z
      split at z
      · next e =>
        cases e
        obtain ⟨xs, ys, z⟩ := z
        obtain ⟨z1, z2⟩ := forP_chk z
        refine ⟨_, _, xs, ys, rfl, z1, z2, _, _, fun i H hc hi => ?_, fun i H hc hi => ?_, z⟩
        · rw [zipV_len] at hi
          have hx : xs[i]? = some (xs[i]'(by omega)) := List.getElem?_eq_getElem (by omega)
          have hy' : ys[i]? = some (ys[i]'(by omega)) := List.getElem?_eq_getElem (by omega)
          refine ⟨⟨xs, ys, _, _, hc.1, hc.2, hx, hy'⟩, ?_⟩
          rintro vs ⟨w, w2, rfl, hw, hw2⟩
          rw [zipV_get xs ys i w w2 (hw xs hc.1) (hw2 ys hc.2)]
        · rw [zipV_len] at hi
          exact ⟨xs, ys, hc.1, hc.2, by omega⟩
      · exact z.elim
    · cases h
  | .zipS, .cons a (.cons b .nil), hp, h => by
    obtain ⟨is, es, kk, pt, rfl, rfl, hm⟩ := pairG (by rfl) hg hp
    simp only [srcM] at h
    split at h
    · next y y2 hy =>
      obtain ⟨p, p2, rfl⟩ := callOf_ok hy
      simp only [Bool.and_eq_true, decide_eq_true_eq] at h
      obtain ⟨⟨⟨⟨⟨h1, h2⟩, h3⟩, h3'⟩, h4⟩, h5⟩ := h
      have s1 := noStar_ok h3' [] X.env
      have s2 := noStar_ok h3 [y2] X.env
      have q := ps_forP (pos := pos) (tp := pt) (k := kk) G (pip_zipS (p := p) (pos := p2) (show Gl X "zip" from glB_ok h1) (G.bl _ h2) (PA.mono (pa_cons (sound_E n G a y h4) (pa_cons (sound_E n G b y2 h5) pa_nil s1) s2)) s2 (by rw [s1]; rfl)) hm hb (noSet_fold rfl X.env)
      intro pins s σ H D I hw
      refine q pins s σ H D I ⟨fun vs H1 => rdFor X.K (.tup is) tb .zipS vs D σ H1, fun vs H1 z => ?_, hw⟩
      simp only [rdFor] at z
      split at z
      · next x' y' _ e =>
        cases e
        obtain ⟨⟨z1, z2, z3⟩, z⟩ := z
        refine ⟨_, _, rfl, z1, z2, _, _, fun i H hc hi => ?_, fun i H hc hi => ?_, z⟩
        · rw [zipV_len] at hi
          simp only [signsV, List.length_map, Array.length_toList] at hi
          refine ⟨⟨by omega, by omega⟩, ?_⟩
          rintro vs ⟨c, d, hc1, hd1, rfl⟩
          rw [zipV_get _ _ i (.str ⟨#[c]⟩) (.str ⟨#[d]⟩) (by simp [signsV, hc1]) (by simp [signsV, hd1])]
        · rw [zipV_len] at hi
          simp only [signsV, List.length_map, Array.length_toList] at hi
          show _ ≤ i
          omega
      · exact z.elim
    · cases h
  | .zipS, .nil, _, h => absurd (show false = true from h) Bool.false_ne_true
  | .zipS, .cons _ .nil, _, h => absurd (show false = true from h) Bool.false_ne_true
  | .zipS, .cons _ (.cons _ (.cons _ _)), _, h => absurd (show false = true from h) Bool.false_ne_true
  | .lst, .nil, _, h => absurd (show false = true from h) Bool.false_ne_true
  | .lst, .cons _ (.cons _ _), _, h => absurd (show false = true from h) Bool.false_ne_true
  | .tup, .nil, _, h => absurd (show false = true from h) Bool.false_ne_true
  | .tup, .cons _ (.cons _ _), _, h => absurd (show false = true from h) Bool.false_ne_true
  | .str, .nil, _, h => absurd (show false = true from h) Bool.false_ne_true
  | .str, .cons _ (.cons _ _), _, h => absurd (show false = true from h) Bool.false_ne_true
  | .rng1, .nil, _, h => absurd (show false = true from h) Bool.false_ne_true
  | .rng1, .cons _ (.cons _ _), _, h => absurd (show false = true from h) Bool.false_ne_true
  | .rng2, .nil, _, h => absurd (show false = true from h) Bool.false_ne_true
  | .rng2, .cons _ .nil, _, h => absurd (show false = true from h) Bool.false_ne_true
  | .rng2, .cons _ (.cons _ (.cons _ _)), _, h => absurd (show false = true from h) Bool.false_ne_true
  | .enum, .nil, _, h => absurd (show false = true from h) Bool.false_ne_true
  | .enum, .cons _ (.cons _ _), _, h => absurd (show false = true from h) Bool.false_ne_true
  | .zip, .nil, _, h => absurd (show false = true from h) Bool.false_ne_true
  | .zip, .cons _ .nil, _, h => absurd (show false = true from h) Bool.false_ne_true
  | .zip, .cons _ (.cons _ (.cons _ _)), _, h => absurd (show false = true from h) Bool.false_ne_true

theorem PT.mono {e : Expr} {t : TT} (h : PT X e t) : PT X e (fun σ H Q => ∃ Q', (∀ v H, Q' v H → Q v H) ∧ t σ H Q') :=
  fun pins s σ H Q I ⟨Q', m, w⟩ => thn (h pins s σ H Q' I w) fun u s1 ⟨H1, I1, q⟩ => ⟨H1, I1, m _ _ q⟩
theorem whl_ok {c : TT} {tb : TS} {D : Ends} {σ : L2.St} {H : Hp} {n : Nat} (h : whlN c tb n D σ H) : tWhile (fun σ H Q => ∃ Q', (∀ v H, Q' v H → Q v H) ∧ c σ H Q') tb D σ H := by
  refine ⟨fun m σ H => whlN c tb m D σ H, ⟨n, h⟩, ?_⟩
  intro m σ H w
  cases m with
  | zero => exact False.elim w
  | succ m =>
    refine ⟨fun b H1 => if b = true then tb { D with nx := whlN c tb m D, ct := whlN c tb m D, bk := D.nx } σ H1 else D.nx σ H1, fun b H1 z => ?_, w⟩
    cases b with
    | true => exact iteT ⟨whlN c tb m D, fun σ' H' z' => ⟨m, Nat.lt_succ_self m, z'⟩, (by rw [if_pos rfl] at z; exact z)⟩
    | false => exact z
theorem sound_S (G : Good Γ top X) : ∀ (n : Nat) (sx : Sx) (st : Stmt), mS Γ top n X.env.scope sx st = true → PS X st (rdS Γ X.K sx)
  | 0, _, _, h => absurd (show false = true from h) Bool.false_ne_true
  | n + 1, sx, st, h => by
    have ih := sound_S G n
    have ie := sound_E n G
    have it := sound_T G n
    have hN : PassesOwn (model X.prog X.w) X.A X.env X.xe := by rw [G.xe]; exact PassesOwn.never
    have nd : X.N.Nodup := by rw [G.hN]; exact G.nd
    cases sx with
    | pass =>
      cases st <;> first | (cases h; done) | exact ps_pass
    | brk =>
      cases st <;> first | (cases h; done) | exact ps_break
    | cont =>
      cases st <;> first | (cases h; done) | exact ps_continue
    | nev => exact ps_never
    | retN =>
      simp only [mS] at h
      split at h
      · exact ps_retN
      · cases h
    | expr e =>
      simp only [mS] at h
      split at h
      · rw [Bool.and_eq_true] at h
        exact ps_expr (ie _ _ h.2) (noComp_sw h.1 _ _ _)
      · cases h
    | ret e =>
      simp only [mS] at h
      split at h
      · exact ps_ret (ie _ _ h)
      · cases h
    | asg g e =>
      cases g with
      | nm i =>
        simp only [mS] at h
        split at h
        · simp only [Bool.and_eq_true] at h
          obtain ⟨⟨h1, h2⟩, h3⟩ := h
          obtain ⟨x, p, rfl, hi, hx, hf⟩ := mN_ok G h2
          exact ps_set nd hi hx (ie _ _ h3) (noComp_sw h1 _ _ _) hf
        · cases h
      | tup is =>
        simp only [mS] at h
        split at h
        · next t x p =>
          simp only [Bool.and_eq_true] at h
          obtain ⟨⟨⟨h1, h2⟩, h3⟩, h4⟩ := h
          have hg := sound_G G h3
          obtain ⟨is', es, kk, pt, e1, rfl, hm⟩ := pairG (k := .enum) (by rfl) h3 rfl
          exact ps_asg (ie _ _ h4) hg (show swapsWithSole [Expr.Tuple es kk pt] x p.line X.env = pure false from noComp_sw h1 (some (.Tuple es kk pt)) p.line X.env) (foldsNone_ok h2) rfl
        · cases h
    | par2 i j a b =>
      simp only [mS] at h
      split at h
      · split at h
        · next hx =>
          obtain ⟨k, p, k2, p2, rfl, rfl⟩ := isPar2_ok hx
          split at h
          · simp only [Bool.and_eq_true, decide_eq_true_eq] at h
            obtain ⟨⟨⟨⟨⟨h1, h2⟩, h3⟩, h4⟩, h5⟩, h6⟩ := h
            have hw := par2_ok (env := X.env) (pt := p) (pt2 := p2) (kt := k) (k2 := k2) h4
            unfold par2B at h4
            simp only [Bool.and_eq_true, decide_eq_true_eq] at h4
            have sa := h4.1.1.1.2
            have sb := h4.1.1.2
            have s1 := noStar_ok sb [] X.env
            intro pins s σ H D I hw'
            refine ps_par (kt := k) (pt := p) (k2 := k2) (pt2 := p2) G.calm nd (by rw [G.hN]; exact h1) (by rw [G.hN]; exact h2) h3 h4.1.1.1.1.1.1.1.2 h4.1.1.1.1.1.1.2 (PA.mono (pa_cons (ie _ _ h5) (pa_cons (ie _ _ h6) pa_nil s1) (noStar_ok sa _ X.env))) hw rfl pins s σ H D I ⟨fun vs H1 => match vs with | [v, w] => D.nx ((σ.set i (some v)).set j (some w)) H1 | _ => False, fun vs H1 z => ?_, hw'⟩
            dsimp only at z
            split at z
            · exact ⟨_, _, rfl, z⟩
            · exact z.elim
          · cases h
        · cases h
      · cases h
    | par3 i j k a b c =>
      simp only [mS] at h
      split at h
      · split at h
        · next hx =>
          obtain ⟨kt, p, k2, p2, rfl, rfl⟩ := isPar3_ok hx
          split at h
          · simp only [Bool.and_eq_true, decide_eq_true_eq] at h
            obtain ⟨⟨⟨⟨⟨⟨⟨⟨⟨h1, h2⟩, h2k⟩, h3⟩, h3a⟩, h3b⟩, h4⟩, h5⟩, h6⟩, h7⟩ := h
            have hw := par3_ok (env := X.env) (pt := p) (pt2 := p2) (kt := kt) (k2 := k2) h4
            unfold par3B at h4
            simp only [Bool.and_eq_true, decide_eq_true_eq] at h4
            obtain ⟨⟨⟨⟨⟨⟨⟨⟨⟨⟨⟨⟨⟨_, l1⟩, l2⟩, l3⟩, _⟩, _⟩, _⟩, _⟩, _⟩, sa⟩, sb⟩, sc'⟩, _⟩, _⟩ := h4
            intro pins s σ H D I hw'
            refine ps_par3 (kt := kt) (pt := p) (k2 := k2) (pt2 := p2) G.calm nd (by rw [G.hN]; exact h1) (by rw [G.hN]; exact h2) (by rw [G.hN]; exact h2k) h3 h3a h3b l1 l2 l3 (PA.mono (pa_cons (ie _ _ h5) (pa_cons (ie _ _ h6) (pa_cons (ie _ _ h7) pa_nil (noStar_ok sc' [] X.env)) (noStar_ok sb _ X.env)) (noStar_ok sa _ X.env))) hw pins s σ H D I ⟨fun vs H1 => match vs with | [u, v, w] => D.nx (((σ.set i (some u)).set j (some v)).set k (some w)) H1 | _ => False, fun vs H1 z => ?_, hw'⟩
            dsimp only at z
            split at z
            · exact ⟨_, _, _, rfl, z⟩
            · exact z.elim
          · cases h
        · cases h
      · cases h
    | dvm i j a b =>
      simp only [mS] at h
      split at h
      · split at h
        · next hx hy =>
          obtain ⟨k, p, rfl⟩ := vTup_ok hx
          obtain ⟨p2, p3, rfl⟩ := isDivmod_ok hy
          simp only [Bool.and_eq_true, decide_eq_true_eq] at h
          obtain ⟨⟨⟨⟨⟨⟨h1, h2⟩, h3⟩, h4⟩, h5⟩, h6⟩, h7⟩ := h
          exact ps_dvm (is := []) G h1 (show Gl X _ from glB_ok h2) (G.bl _ h3) (ie _ _ h6) (ie _ _ h7) h4 h5
        · cases h
      · cases h
    | aug i op e =>
      simp only [mS] at h
      split at h
      · simp only [Bool.and_eq_true, decide_eq_true_eq] at h
        obtain ⟨⟨h1, h2⟩, h3⟩ := h
        subst h2
        obtain ⟨x, p, rfl, hi, hx, hf⟩ := mN_ok G h1
        intro pins s σ H D I hw
        refine ps_aug (pos' := p) nd hi hx (ie _ _ h3) (iop_ok op) hf pins s σ H D I ?_
        have hw : (match σ[i]? with
          | some (some x) => rdE Γ X.K e σ H fun y H1 => rdAg op x y H1 fun z H2 => D.nx (σ.set i (some z)) H2
          | _ => False) := hw
        split at hw
        · exact ⟨_, by assumption, hw⟩
        · exact hw.elim
      · cases h
    | ite c t f =>
      simp only [mS] at h
      split at h
      · simp only [Bool.and_eq_true] at h
        exact ps_if (it _ _ h.1.1) (sound_Ss ih h.1.2) (sound_Ss ih h.2)
      · cases h
    | whl c b =>
      simp only [mS] at h
      split at h
      · rw [Bool.and_eq_true] at h
        intro pins s σ H D I hw
        obtain ⟨m, hw⟩ := hw
        exact ps_while hN (PT.mono (it _ _ h.1)) (sound_Ss ih h.2) pins s σ H D I (whl_ok hw)
      · cases h
    | for_ g k src b =>
      simp only [mS] at h
      split at h
      · simp only [Bool.and_eq_true] at h
        obtain ⟨⟨⟨h1, h2⟩, h3⟩, h4⟩ := h
        exact sound_src G h1 (sound_Ss ih h4) k src h2 h3
      · cases h
    | app o a =>
      simp only [mS] at h
      split at h
      · split at h
        · next hx =>
          obtain ⟨p, q, rfl, hl⟩ := isAppend_ok hx
          simp only [Bool.and_eq_true] at h
          obtain ⟨⟨⟨h1, h2⟩, h3⟩, h4⟩ := h
          have s1 := noStar_ok h2 [] X.env
          intro pins s σ H D I hw
          refine ps_expr (pe_bm (apos := q) (cpos := p) PySem.F.plainAttrs_list PySem.F.slot_list_append PySem.F.type_list_append mt_append (PE.mono (ie _ _ h3)) (PA.mono (pa_cons (ie _ _ h4) pa_nil s1)) (noSuper_ok h1 _ _ _) (by rw [s1]; rfl) hl.symm s1 rfl) rfl pins s σ H D I ⟨_, fun v H1 z => ?_, hw⟩
          split at z
          · next l =>
            obtain ⟨hy, z⟩ := z
            refine ⟨.inl ⟨rfl, hy⟩, fun vs H2 => (match vs with | [y] => ∃ xs, H2 l = some (.lst xs) ∧ xs.length < sizeLine ∧ D.nx σ (upd H2 l (.lst (xs ++ [y]))) | _ => False), fun vs H2 z => ?_, z⟩
            dsimp only at z
            split at z
            · obtain ⟨xs, z1, z2, z3⟩ := z
              exact ⟨l, xs, _, rfl, rfl, z1, z2, z3⟩
            · exact z.elim
          · exact z.elim
        · cases h
      · cases h
    | dput o k v =>
      simp only [mS] at h
      split at h
      · split at h
        · next hx =>
          obtain ⟨p, rfl⟩ := vSub_ok hx
          simp only [Bool.and_eq_true] at h
          obtain ⟨⟨⟨h1, h2⟩, h3⟩, h4⟩ := h
          intro pins s σ H D I hw
          refine ps_dput (Nat.lt_of_le_of_lt (Nat.add_le_add_left (by decide : 1 ≤ 64) _) G.un) (PE.mono (ie _ _ h2)) (PE.mono (ie _ _ h3)) (PE.mono (ie _ _ h4)) (noComp_sw h1 _ _ _) pins s σ H D I ⟨_, fun z H1 w => ⟨_, fun x H2 w => ⟨_, fun y H3 w => ?_, w⟩, w⟩, hw⟩
          cases x with
          | ref a =>
            cases hc : keyOf y with
            | none => rw [hc] at w; exact w.elim
            | some c =>
              rw [hc] at w
              obtain ⟨kvs, w1, w2, w3⟩ := w
              exact ⟨a, _, rfl, .inl ⟨kvs, c, w1, keyOf_ok hc, w2, rfl⟩, w3⟩
          | _ => exact False.elim w
        · cases h
      · cases h
    | setLc j i k src elt =>
      simp only [mS] at h
      split at h
      · split at h
        · next hx hy =>
          obtain ⟨py, rfl⟩ := vName_ok hy
          obtain ⟨p, rfl⟩ := vLc_ok hx
          simp only [Bool.and_eq_true, decide_eq_true_eq, Bool.not_eq_true'] at h
          obtain ⟨⟨⟨⟨⟨h1, h2⟩, h3⟩, h4⟩, h5⟩, h6⟩ := h
          have hk : X.env.scope.kind = .function := by
            split at h3
            · assumption
            · cases h3
          cases n with
          | zero => exact absurd (show false = true from h6) Bool.false_ne_true
          | succ n =>
            simp only [mE, vLc] at h6
            obtain ⟨y, py, wi, te, e1, hi, ok, hg, he, hs, imp⟩ := lc_parts G (sound_E n) h6
            subst e1
            intro pins s σ H D I hw
            exact ps_setLc (own := [(y, i)]) G.calm nd (by rw [G.hN]; exact h1) h2 (sw_true hk h2 h4 h5) hi ok hg (fun _ _ _ _ _ => pts_nil) he hs pins s σ H D I (imp σ H _ hw)
        · cases h
      · cases h
end
end EV

end

section
set_option Elab.async false
set_option linter.all false
set_option maxRecDepth 100000
namespace EV
open PySem PySem.Spec PyProof.Rows L2
/-! ### what a call need not keep -/
def noT : HO → Bool
  | .dT _ => false
  | .frz _ u => noT u
  | _ => true
def NoT (H : Hp) : Prop := ∀ b o, H b = some o → noT o = true
theorem NoT.upd {H : Hp} {a : Addr} {o : HO} (h : NoT H) (ho : noT o = true) : NoT (L2.upd H a o) := fun b u e => by
  by_cases hb : b = a
  · subst hb
    rw [upd_same] at e
    cases e
    exact ho
  · rw [upd_ne hb] at e
    exact h b u e
theorem NoT.only {H : Hp} (h : Only H) : NoT H := fun b o e => by
  rcases h b with z | ⟨ob, xs, z⟩
  · rw [z] at e; cases e
  · rw [z] at e
    cases e
    rfl
/-- a thing that leans on nothing else that is tracked -/
def lone : HO → Bool
  | .lst _ => true | .tup _ => true | .dK _ => true
  | _ => false
section
variable {P : Program} {w : World} {K : PySem.W.Frag} {mg : Str → Option Value} {base : Heap} {H H' H2 : Hp} {h h' : Heap} {a : Addr}
theorem ObjOk.shrink : ∀ {o : HO}, noT o = true → ObjOk P w H h a o → ObjOk P w H' h' a o → Same H H2 → ObjOk P w H2 h' a o
  | .lst _, _, _, n, _ => n
  | .tup _, _, _, n, _ => n
  | .dK _, _, _, n, _ => n
  | .dT _, t, _, _, _ => absurd t Bool.false_ne_true
  | .set _ _, _, _, n, _ => n
  | .ins _ _ _, _, o, n, s => ⟨s _ _ o.1, n.2⟩
  | .own _, _, _, n, _ => n
  | .xd _, _, _, n, _ => n
  | .rng _ _, _, _, n, _ => n
  | .frz _ u, t, o, n, s => ⟨n.1, ObjOk.shrink (o := u) t o.2 n.2 s⟩
  | .tbl _, _, _, n, _ => n
  | .met _ _, _, _, n, _ => n
  | .ext _, _, _, n, _ => n
theorem lone_ok {o : HO} (l : lone o = true) (n : ObjOk P w H' h' a o) : ObjOk P w H2 h' a o := by
  cases o <;> first | exact n | exact absurd l Bool.false_ne_true
/-- what a call has made and nobody asks for is forgotten -/
theorem trim_fn {k : Nat} {f : Addr} {fd : FuncData} {ps : List Str} {sp : Sp} (F : FnOk P w K mg base CX0 k f fd ps sp) :
    FnOk P w K mg base CX0 k f fd ps (fun vs H Q E => NoT H ∧ sp vs H (fun v H' => ∃ H2, Same H2 H' ∧ Same H H2 ∧ (∀ b o, H2 b = some o → H b = some o ∨ lone o = true) ∧ Q v H2) E) := by
  refine ⟨fun vs H Q E h => F.len vs H _ E h.2, fun A outer s H args us vs Q E hr e0 hb r hsp => ?_⟩
  obtain ⟨nt, hsp⟩ := hsp
  refine codeAny_mono (F.run A outer s H args us vs _ E hr e0 hb r hsp) fun rs s' hq => ?_
  cases rs with
  | error e => exact hq
  | ok fl =>
    cases fl with
    | next => exact hq
    | brk => exact hq
    | cont => exact hq
    | ret u =>
      obtain ⟨v, H1, os, bare, un, hok, rv, H2, s1, s2, hl, q⟩ := hq
      refine ⟨v, H2, os, bare, ⟨un.keep, un.slot, fun b o e n hx => s1.free (un.free b o e n hx), un.there, fun b xs e => s2 b _ e, fun b o u e => s2 b _ e, fun b ps e => ⟨#[], by rw [s2 b _ e]; simp⟩⟩, fun b o e => ?_, rv, q⟩
      have n := hok b o (s1 b o e)
      rcases hl b o e with e' | l
      · exact ObjOk.shrink (nt b o e') (e0.hok b o e') n s2
      · exact lone_ok l n
/-- a def that hands back a value and changes nothing -/
def outV (o : Option V) (Q : V → Prop) : Prop := match o with
  | some v => Q v
  | none => False
theorem outV_go {o : Option V} {v : V} {Q : V → Prop} (h : o = some v) (q : Q v) : outV o Q := by
  rw [h]
  exact q
def spP (f : List V → Option V) : Sp := fun vs H Q _ => NoT H ∧ outV (f vs) fun v => Q v H
theorem pure_fn {k : Nat} {f : Addr} {fd : FuncData} {ps : List Str} {sp : Sp} {g : List V → Option V} (F : FnOk P w K mg base CX0 k f fd ps sp)
    (h : ∀ vs H v Q E, NoT H → g vs = some v → (∀ H', Same H H' → Q v H') → sp vs H Q E) : FnOk P w K mg base CX0 k f fd ps (spP g) :=
  (trim_fn F).imp fun vs H Q E ⟨nt, q⟩ => by
    refine ⟨nt, ?_⟩
    cases e : g vs with
    | none => rw [e] at q; exact q.elim
    | some v =>
      rw [e] at q
      exact h vs H v _ E nt e fun H' s => ⟨H, s, Same.refl H, fun b o e => .inl e, q⟩
/-- the defs and names around -/
structure Tb (fn : List (Str × Sp)) (gl : List (Str × V)) (bl : List Str) (P : Program) (w : World) (K : PySem.W.Frag) (mg : Str → Option Value) (base : Heap) (k : Nat) : Prop where
  fn : ∀ (j : Nat) (g : Str × Sp), fn[j]? = some g → ∃ f fd ps m, m ≤ k ∧ FnOk P w K mg base CX0 m f fd ps g.2 ∧ mg g.1 = some (.ref f) ∧ PySem.W.keepIn K (.ref f) = true ∧ Binds K fd ps []
  gl : ∀ (j : Nat) (g : Str × V), gl[j]? = some g → ∃ u, mg g.1 = some u ∧ RelV g.2 u
  bl : ∀ x ∈ bl, mg x = none
theorem Tb.nil {gl : List (Str × V)} {bl : List Str} (h1 : ∀ (j : Nat) (g : Str × V), gl[j]? = some g → ∃ u, mg g.1 = some u ∧ RelV g.2 u) (h2 : ∀ x ∈ bl, mg x = none) : Tb [] gl bl P w K mg base 0 :=
  ⟨fun j g h => by simp at h, h1, h2⟩
theorem Tb.snoc {fn : List (Str × Sp)} {gl : List (Str × V)} {bl : List Str} {k : Nat} (T : Tb fn gl bl P w K mg base k) {x : Str} {sp : Sp} {f : Addr} {fd : FuncData} {ps : List Str} (F : FnOk P w K mg base CX0 (k + 1) f fd ps sp) (hm : mg x = some (.ref f))
    (hk : PySem.W.keepIn K (.ref f) = true) (hb : Binds K fd ps []) : Tb (fn ++ [(x, sp)]) gl bl P w K mg base (k + 1) := by
  refine ⟨fun j g h => ?_, T.gl, T.bl⟩
  by_cases hj : j < fn.length
  · rw [List.getElem?_append_left hj] at h
    obtain ⟨f', fd', ps', m, hm', r⟩ := T.fn j g h
    exact ⟨f', fd', ps', m, Nat.le_succ_of_le hm', r⟩
  · rw [List.getElem?_append_right (by omega)] at h
    cases e : j - fn.length with
    | zero =>
      rw [e] at h
      cases (Option.some.inj h)
      exact ⟨f, fd, ps, k + 1, Nat.le_refl _, F, hm, hk, hb⟩
    | succ i =>
      rw [e] at h
      simp at h
/-- THE RULE for a def: its text by the own syntax, its reading -/
theorem fn_ev {fn : List (Str × Sp)} {gl : List (Str × V)} {bl : List Str} {k : Nat} {x qual : Str} {st : Stmt} {f : Addr} {fd : FuncData} {N ps : List Str} {sp : Sp} (T : Tb fn gl bl P w K mg base k) (F : Fun K x qual st f fd) (S : FnScope N ps (defScope st)) (body : Sxs)
    (hm : mSs (mS ⟨N, fn, gl, bl⟩ true 40 (defScope st)) body (defBody st) = true) (len : ∀ vs H Q E, sp vs H Q E → vs.length = ps.length)
    (h : ∀ vs H Q E, sp vs H Q E → rdSs ⟨N, fn, gl, bl⟩ K body { nx := fun _ H' => Q .non H', rt := Q } (start N vs) H) : FnOk P w K mg base CX0 (k + 1) f fd ps sp := by
  refine F.ok S len fun cdv A outer s H vs Q E hr hsp => ⟨_, ?_, h vs H Q E hsp⟩
  have G : Good ⟨N, fn, gl, bl⟩ true (cxOf CX0 P w K mg base N qual (defScope st) f cdv A outer s H E).nox :=
    ⟨rfl, S.nd, rfl, fun _ _ => rfl, hr.units, rfl, fun j g hg => by
      obtain ⟨f', fd', ps', m, hm', F', a, b, c⟩ := T.fn j g hg
      exact ⟨f', fd', ps', m, F', hr.mono hm', a, b, c⟩, T.gl, T.bl⟩
  exact sound_Ss (sound_S G 40) hm
end
end EV

end

section
set_option Elab.async false
set_option linter.all false
set_option maxRecDepth 100000
namespace EV
open PySem PySem.Spec PyProof.Rows L2 TL
def mk (l : List Nat) : Str := ⟨l.toArray⟩
theorem tl_mk' (l : List Nat) : tl (mk l) = l := rfl
theorem mk_len (l : List Nat) : (mk l).length = l.length := by rw [len_tl]; rfl
theorem mk_app (a b : List Nat) : mk a ++ mk b = mk (a ++ b) := ext_tl (by rw [tl_append]; rfl)
theorem mk_inj {a b : List Nat} : mk a = mk b ↔ a = b := ⟨fun h => congrArg tl h, fun h => by rw [h]⟩
theorem mk_dec (a b : List Nat) : decide (mk a = mk b) = decide (a = b) := by
  rw [Bool.eq_iff_iff, decide_eq_true_eq, decide_eq_true_eq]
  exact mk_inj
def posN : List Nat → Nat → Nat → Int
  | [], _, _ => -1
  | d :: r, c, i => if d = c then (i : Int) else posN r c (i + 1)
theorem posN_none : ∀ (l : List Nat) (c k : Nat), (∀ i : Nat, l[i]? ≠ some c) → posN l c k = -1
  | [], _, _, _ => rfl
  | d :: r, c, k, h => by
    have h0 : d ≠ c := fun e => h 0 (by rw [e]; rfl)
    unfold posN
    rw [if_neg h0]
    exact posN_none r c (k + 1) fun i => h (i + 1)
theorem posN_some : ∀ (l : List Nat) (c k i : Nat), l[i]? = some c → (∀ j : Nat, j < i → l[j]? ≠ some c) → posN l c k = ((k + i : Nat) : Int)
  | [], _, _, _, h, _ => by simp at h
  | d :: r, c, k, 0, h, _ => by
    have e : d = c := Option.some.inj h
    unfold posN
    rw [if_pos e]
    rfl
  | d :: r, c, k, i + 1, h, hn => by
    have h0 : d ≠ c := fun e => hn 0 (Nat.succ_pos i) (by rw [e]; rfl)
    unfold posN
    rw [if_neg h0, posN_some r c (k + 1) i h fun j hj => hn (j + 1) (Nat.succ_lt_succ hj)]
    congr 1
    omega
theorem pre_one {c : Nat} {l : List Nat} {i : Nat} : pre [c] (l.drop i) = true ↔ l[i]? = some c := by
  unfold pre
  rw [beq_iff_eq, List.length_singleton]
  cases h : l.drop i with
  | nil =>
    have : l.length ≤ i := List.drop_eq_nil_iff.mp h
    rw [List.getElem?_eq_none this]
    simp
  | cons d r =>
    have hl : i < l.length := by
      rcases Nat.lt_or_ge i l.length with h' | h'
      · exact h'
      · rw [List.drop_eq_nil_of_le h'] at h; cases h
    have e := List.drop_eq_getElem_cons hl
    rw [h] at e
    injection e with e1 e2
    rw [List.getElem?_eq_getElem hl, ← e1]
    simp
theorem find_one (x : Str) (c : Nat) : Txt.find x ⟨#[c]⟩ = posN (tl x) c 0 := by
  have hy : tl (⟨#[c]⟩ : Str) ≠ [] := by simp [tl]
  have e : tl (⟨#[c]⟩ : Str) = [c] := rfl
  rcases PyProof.Rows.find_whole x ⟨#[c]⟩ with ⟨h, hn⟩ | ⟨i, h, ha, hn⟩
  · rw [h, posN_none]
    intro i z
    exact hn i ((at_iff hy i).mpr (by rw [e]; exact pre_one.mpr z))
  · rw [h, posN_some (tl x) c 0 i (pre_one.mp (by rw [← e]; exact (at_iff hy i).mp ha)) fun j hj z => hn j hj ((at_iff hy j).mpr (by rw [e]; exact pre_one.mpr z))]
    congr 1
    omega
theorem starts_pre (x y : Str) (hy : tl y ≠ []) : Txt.startswith x y = pre (tl y) (tl x) := by
  rw [Bool.eq_iff_iff]
  have h := at_iff (x := x) hy 0
  rw [List.drop_zero] at h
  rw [← h]
  unfold Txt.startswith StrLaws.At
  rw [Bool.and_eq_true, decide_eq_true_eq]
theorem cutS_drop (z : Str) (k : Nat) : cutS z (some (k : Int)) none = mk ((tl z).drop k) := by
  unfold cutS mk
  congr 2
  show ((tl z).drop (HT.sIx z.length 0 (some (k : Int)))).take (HT.sIx z.length z.length none - HT.sIx z.length 0 (some (k : Int))) = _
  have e0 : HT.sIx z.length z.length none = z.length := rfl
  have e1 : HT.sIx z.length 0 (some (k : Int)) = min k z.length := HT.sIx_nat _ _ _
  rw [e0, e1, len_tl]
  rcases Nat.le_total k (tl z).length with h | h
  · rw [Nat.min_eq_left h, List.take_of_length_le (by rw [List.length_drop]; exact Nat.le_refl _)]
  · rw [Nat.min_eq_right h, List.drop_eq_nil_of_le (Nat.le_refl _), List.drop_eq_nil_of_le h, List.take_nil]
theorem signs_mk (l : List Nat) : signsV (mk l) = l.map fun c => V.str ⟨#[c]⟩ := rfl
theorem sz (n : Nat) (h : n ≤ 1000000) : n ≤ sizeLine := Nat.le_trans h (by decide)
end EV

end

section
set_option maxRecDepth 100000
namespace K1
/-! ### the program's numerals as plain functions -/
def letB : Nat → Nat
  | 0 => 0
  | f + 1 => 26 * letB f + 26
def letL : Nat → Nat → List Nat → List Nat
  | 0, _, acc => acc
  | f + 1, n, acc => if n = 0 then acc else letL f ((n - 1) / 26) ((97 + (n - 1) % 26) :: acc)
/-- the turns of one Roman figure: what is left, what is written -/
def romT : Nat → Nat → List Nat → Nat → List Nat → Nat × List Nat
  | 0, _, _, n, acc => (n, acc)
  | f + 1, w, s, n, acc => if w ≤ n then romT f w s (n - w) (acc ++ s) else (n, acc)
def ROM : List (List Nat × Nat) := [([109], 1000), ([99, 109], 900), ([100], 500), ([99, 100], 400), ([99], 100), ([120, 99], 90), ([108], 50), ([120, 108], 40), ([120], 10), ([105, 120], 9), ([118], 5), ([105, 118], 4), ([105], 1)]
def romL : List (List Nat × Nat) → Nat → List Nat → List Nat
  | [], _, acc => acc
  | (s, w) :: r, n, acc => romL r (romT 4 w s n acc).1 (romT 4 w s n acc).2
def romOk : List (List Nat × Nat) → Nat → Bool
  | [], _ => true
  | (s, w) :: r, n => decide (n < 4 * w) && romOk r (romT 4 w s n []).1
theorem romT_1 : ∀ (f w : Nat) (s : List Nat) (n : Nat) (a b : List Nat), (romT f w s n a).1 = (romT f w s n b).1
  | 0, _, _, _, _, _ => rfl
  | f + 1, w, s, n, a, b => by
    unfold romT
    by_cases h : w ≤ n
    · rw [if_pos h, if_pos h]
      exact romT_1 f w s (n - w) _ _
    · rw [if_neg h, if_neg h]
/-- the decimal figures -/
def figL : Nat → List Nat := fun n => (toString (n : Int)).toList.map Char.toNat
def numL (k : Nat) (n : Nat) : List Nat := match k with
  | 0 => figL n
  | 1 => letL 3 n []
  | _ => romL ROM n []
/-! ### the guesses -/
def posL : List Nat → Nat → Nat → Int
  | [], _, _ => -1
  | d :: r, c, i => if d = c then (i : Int) else posL r c (i + 1)
def LETc : List Nat := [97, 98, 99, 100, 101, 102, 103, 104, 105, 106, 107, 108, 109, 110, 111, 112, 113, 114, 115, 116, 117, 118, 119, 120, 121, 122]
def FIGc : List Nat := [48, 49, 50, 51, 52, 53, 54, 55, 56, 57]
def plcL (signs : List Nat) (lowest : Int) : List Nat → Int → Int
  | [], z => z
  | c :: r, z => plcL signs lowest r (z * signs.length + posL signs c 0 + lowest)
def prL (s l : List Nat) : Bool := l.take s.length == s
def grT : Nat → Nat → List Nat → Int → List Nat → Int × List Nat
  | 0, _, _, z, l => (z, l)
  | f + 1, w, s, z, l => if prL s l = true then grT f w s (z + w) (l.drop s.length) else (z, l)
def grL : List (List Nat × Nat) → Int → List Nat → Int
  | [], z, _ => z
  | (s, w) :: r, z, l => grL r (grT 15 w s z l).1 (grT 15 w s z l).2
def guessL (k : Nat) (l : List Nat) : Int := match k with
  | 0 => plcL FIGc 0 l 0
  | 1 => plcL LETc 1 l 0
  | _ => grL ROM 0 l
/-- the number that a text writes, as the program tells it -/
def nofL (k : Nat) (l : List Nat) : Option Nat :=
  if l.length ≤ 14 ∧ 1 ≤ guessL k l ∧ guessL k l ≤ 3099 ∧ numL k (guessL k l).toNat = l then some (guessL k l).toNat else none
def allN (p : Nat → Bool) : Bool := (List.range 3099).all fun i => p (i + 1)
theorem allN_ok {p : Nat → Bool} (h : allN p = true) {n : Nat} (h1 : 1 ≤ n) (h2 : n ≤ 3099) : p n = true := by
  have := List.all_eq_true.mp h (n - 1) (List.mem_range.mpr (by omega))
  rwa [Nat.sub_add_cancel h1] at this
theorem rom_all : allN (romOk ROM) = true := by decide +kernel
theorem guess_all1 : allN (fun n => decide (guessL 1 (numL 1 n) = n)) = true := by decide +kernel
theorem guess_all2 : allN (fun n => decide (guessL 2 (numL 2 n) = n)) = true := by decide +kernel
theorem len_all1 : allN (fun n => decide ((numL 1 n).length ≤ 14)) = true := by decide +kernel
theorem len_all2 : allN (fun n => decide ((numL 2 n).length ≤ 14)) = true := by decide +kernel
theorem guess_all0 : allN (fun n => decide (guessL 0 (numL 0 n) = n)) = true := by decide +kernel
theorem len_all0 : allN (fun n => decide ((numL 0 n).length ≤ 4)) = true := by decide +kernel
end K1

end

section
set_option maxRecDepth 100000
namespace K1
/-! ### the law's own numerals and values as plain functions -/
def lnL : Nat → Nat → List Nat → List Nat
  | 0, _, acc => acc
  | m + 1, n, acc => lnL m (n / 26) ((97 + n % 26) :: acc)
def lmany (n : Nat) : Nat × Nat := if n < 26 then (1, n) else if n - 26 < 676 then (2, n - 26) else (3, n - 702)
def FIGS : List (List Nat) := [[], [49], [49, 49], [49, 49, 49], [49, 53], [53], [53, 49], [53, 49, 49], [53, 49, 49, 49], [49, 116]]
def LROM : List (Nat × List Nat × List Nat × List Nat) := [(1000, [109], [], []), (100, [99], [100], [109]), (10, [120], [108], [99]), (1, [105], [118], [120])]
def lsg (one five ten : List Nat) : List Nat → List Nat → List Nat
  | [], acc => acc
  | c :: r, acc => lsg one five ten r (acc ++ if c = 49 then one else if c = 53 then five else ten)
def lromL : List (Nat × List Nat × List Nat × List Nat) → Nat → List Nat → List Nat
  | [], _, acc => acc
  | (w, a, b, c) :: r, n, acc => lromL r n (lsg a b c (FIGS.getD (n / w % 10) []) acc)
def lnumL (k n : Nat) : List Nat := match k with
  | 0 => figL n
  | 1 => lnL (lmany (n - 1)).1 (lmany (n - 1)).2 []
  | _ => lromL LROM n []
theorem ln_all1 : allN (fun n => decide (lnumL 1 n = numL 1 n)) = true := by decide +kernel
theorem ln_all2 : allN (fun n => decide (lnumL 2 n = numL 2 n)) = true := by decide +kernel
def ROMc : List Nat := [105, 118, 120, 108, 99, 100, 109]
def wor : Nat → Int
  | 105 => 1 | 118 => 5 | 120 => 10 | 108 => 50 | 99 => 100 | 100 => 500 | 109 => 1000
  | _ => 0
/-- the fold over signs and the ones behind -/
def lrv : List Nat → Int → Int
  | [], z => z
  | c :: r, z => lrv r (if (match r with | [] => false | d :: _ => decide (wor c < wor d)) = true then z - wor c else z + wor c)
def lval (k : Nat) (l : List Nat) : Option Int := match k with
  | 0 => if l = [] ∨ 4 < l.length ∨ (l.all fun c => decide (c ∈ FIGc)) = false then none else some (plcL FIGc 0 l 0)
  | 1 => if 4 < l.length ∨ (l.all fun c => decide (c ∈ LETc)) = false then none else some (plcL LETc 1 l 0)
  | _ => if 20 < l.length ∨ (l.all fun c => decide (c ∈ ROMc)) = false then none else some (lrv l 0)
def valL (k : Nat) (l : List Nat) : Option Nat := match lval k l with
  | some g => if 1 ≤ g ∧ g ≤ 3099 ∧ lnumL k g.toNat = l then some g.toNat else none
  | none => none
theorem lv_all0 : allN (fun n => decide (lval 0 (numL 0 n) = some (n : Int))) = true := by decide +kernel
theorem lv_all1 : allN (fun n => decide (lval 1 (numL 1 n) = some (n : Int))) = true := by decide +kernel
theorem lv_all2 : allN (fun n => decide (lval 2 (numL 2 n) = some (n : Int))) = true := by decide +kernel
end K1

end

section
set_option Elab.async false
set_option linter.all false
set_option maxRecDepth 100000
namespace K1
open PySem PySem.Spec PyProof.Rows L2 EV
def top (i : Nat) : Stmt := PySem.Challenge.pw_listmarks_k02_whole_texts_read.main.body.getD i (.Pass ⟨0, 0, 0, 0⟩)
def bl : List Str := ["all", "bool", "divmod", "int", "isinstance", "len", "max", "min", "range", "str", "zip"]
def LET : Str := "abcdefghijklmnopqrstuvwxyz"
def FIG : Str := "0123456789"
def gl (aK aR : Addr) : List (Str × V) := [("KINDS", .ref aK), ("ROMAN", .ref aR), ("LETTERS", .str LET), ("MOST_NUMBER", .int 3099), ("FIGURES", .str FIG), ("MOST_SIGNS", .int 14)]
abbrev s_is_kind : Stmt := top 9
def N_is_kind : List Str := ["value"]
def B_is_kind : Sxs :=
  (.cons (.ret (.and (.cons (.isi (.var 0) .str) (.cons (.cmp .isin (.var 0) (.glb 0)) .nil))))
  .nil)
abbrev s_check_kind : Stmt := top 10
def N_check_kind : List Str := ["value"]
def B_check_kind : Sxs :=
  (.cons (.ite (.not (.call 0 (.cons (.var 0) .nil)))
  (.cons .nev
  .nil)
  .nil)
  .nil)
abbrev s_in_roman : Stmt := top 18
def N_in_roman : List Str := ["number", "text", "left", "signs", "worth"]
def B_in_roman : Sxs :=
  (.cons (.asg (.nm 1) (.cst (.str "")))
  (.cons (.asg (.nm 2) (.var 0))
  (.cons (.for_ (.tup [3, 4]) .tup (.cons (.glb 1) .nil)
  (.cons (.whl (.cmp .ge (.var 2) (.var 4))
  (.cons (.aug 1 .add (.var 3))
  (.cons (.aug 2 .sub (.var 4))
  .nil)))
  .nil))
  (.cons (.ret (.var 1))
  .nil))))
abbrev s_is_number : Stmt := top 8
def N_is_number : List Str := ["value", "low", "high"]
def B_is_number : Sxs :=
  (.cons (.ite (.or (.cons (.isi (.var 0) .bool) (.cons (.not (.isi (.var 0) .int)) .nil)))
  (.cons (.ret (.cst (.bl false)))
  .nil)
  .nil)
  (.cons (.ret (.chn .le .le (.var 1) (.var 0) (.var 2)))
  .nil))
abbrev s_in_letters : Stmt := top 17
def N_in_letters : List Str := ["number", "text", "left", "at"]
def B_in_letters : Sxs :=
  (.cons (.asg (.nm 1) (.cst (.str "")))
  (.cons (.asg (.nm 2) (.var 0))
  (.cons (.whl (.cmp .gt (.var 2) (.cst (.int 0)))
  (.cons (.dvm 2 3 (.bin .sub (.var 2) (.cst (.int 1))) (.blt .len (.cons (.glb 2) .nil)))
  (.cons (.asg (.nm 1) (.bin .add (.idx (.glb 2) (.var 3)) (.var 1)))
  .nil)))
  (.cons (.ret (.var 1))
  .nil))))
abbrev s_numeral : Stmt := top 16
def N_numeral : List Str := ["number", "kind"]
def B_numeral : Sxs :=
  (.cons (.ite (.not (.call 3 (.cons (.var 0) (.cons (.cst (.int 1)) (.cons (.glb 3) .nil)))))
  (.cons .nev
  .nil)
  .nil)
  (.cons (.expr (.call 1 (.cons (.var 1) .nil)))
  (.cons (.ite (.cmp .eq (.var 1) (.cst (.str "figures")))
  (.cons (.ret (.btc .str (.var 0)))
  .nil)
  .nil)
  (.cons (.ite (.cmp .eq (.var 1) (.cst (.str "letters")))
  (.cons (.ret (.call 4 (.cons (.var 0) .nil)))
  .nil)
  .nil)
  (.cons (.ret (.call 2 (.cons (.var 0) .nil)))
  .nil)))))
abbrev s_guess_roman : Stmt := top 22
def N_guess_roman : List Str := ["text", "number", "left", "signs", "worth"]
def B_guess_roman : Sxs :=
  (.cons (.asg (.nm 1) (.cst (.int 0)))
  (.cons (.asg (.nm 2) (.var 0))
  (.cons (.for_ (.tup [3, 4]) .tup (.cons (.glb 1) .nil)
  (.cons (.whl (.m1 .startswith (.var 2) (.var 3))
  (.cons (.aug 1 .add (.var 4))
  (.cons (.asg (.nm 2) (.slc (.var 2) (.cons (.blt .len (.cons (.var 3) .nil)) .nil) .nil))
  .nil)))
  .nil))
  (.cons (.ret (.var 1))
  .nil))))
abbrev s_guess_places : Stmt := top 21
def N_guess_places : List Str := ["text", "signs", "lowest", "number", "sign"]
def B_guess_places : Sxs :=
  (.cons (.asg (.nm 3) (.cst (.int 0)))
  (.cons (.for_ (.nm 4) .str (.cons (.var 0) .nil)
  (.cons (.asg (.nm 3) (.bin .add (.bin .add (.bin .mul (.var 3) (.blt .len (.cons (.var 1) .nil))) (.m1 .find (.var 1) (.var 4))) (.var 2)))
  .nil))
  (.cons (.ret (.var 3))
  .nil)))
abbrev s_guess : Stmt := top 20
def N_guess : List Str := ["text", "kind"]
def B_guess : Sxs :=
  (.cons (.ite (.cmp .eq (.var 1) (.cst (.str "figures")))
  (.cons (.ret (.call 7 (.cons (.var 0) (.cons (.glb 4) (.cons (.cst (.int 0)) .nil)))))
  .nil)
  .nil)
  (.cons (.ite (.cmp .eq (.var 1) (.cst (.str "letters")))
  (.cons (.ret (.call 7 (.cons (.var 0) (.cons (.glb 2) (.cons (.cst (.int 1)) .nil)))))
  .nil)
  .nil)
  (.cons (.ret (.call 6 (.cons (.var 0) .nil)))
  .nil)))
abbrev s_number_of : Stmt := top 19
def N_number_of : List Str := ["text", "kind", "number"]
def B_number_of : Sxs :=
  (.cons (.ite (.not (.isi (.var 0) .str))
  (.cons .nev
  .nil)
  .nil)
  (.cons (.expr (.call 1 (.cons (.var 1) .nil)))
  (.cons (.ite (.cmp .gt (.blt .len (.cons (.var 0) .nil)) (.glb 5))
  (.cons (.ret (.cst .non))
  .nil)
  .nil)
  (.cons (.asg (.nm 2) (.call 8 (.cons (.var 0) (.cons (.var 1) .nil))))
  (.cons (.ite (.and (.cons (.call 3 (.cons (.var 2) (.cons (.cst (.int 1)) (.cons (.glb 3) .nil)))) (.cons (.cmp .eq (.call 5 (.cons (.var 2) (.cons (.var 1) .nil))) (.var 0)) .nil)))
  (.cons (.ret (.var 2))
  .nil)
  .nil)
  (.cons (.ret (.cst .non))
  .nil))))))
abbrev s__law_draw : Stmt := top 25
def N__law_draw : List Str := ["_law_cell", "_law_k", "_law_most", "_law_primes"]
def B__law_draw : Sxs :=
  (.cons (.asg (.nm 3) (.tup (.cons (.cst (.int 1000003)) (.cons (.cst (.int 1000033)) (.cons (.cst (.int 1000037)) (.cons (.cst (.int 1000039)) (.cons (.cst (.int 1000081)) (.cons (.cst (.int 1000099)) (.cons (.cst (.int 1000117)) (.cons (.cst (.int 1000121)) (.cons (.cst (.int 1000133)) (.cons (.cst (.int 1000151)) (.cons (.cst (.int 1000159)) (.cons (.cst (.int 1000171)) (.cons (.cst (.int 1000183)) (.cons (.cst (.int 1000187)) (.cons (.cst (.int 1000193)) (.cons (.cst (.int 1000199)) .nil))))))))))))))))))
  (.cons (.ret (.bin .mod (.bin .mod (.bin .add (.bin .mul (.var 0) (.cst (.int 48271))) (.bin .mul (.var 1) (.cst (.int 69621)))) (.idx (.var 3) (.bin .mod (.var 1) (.cst (.int 16))))) (.var 2)))
  .nil))
abbrev s__law_number : Stmt := top 26
def N__law_number : List Str := ["_law_cell", "_law_k", "_law_limit", "_law_d"]
def B__law_number : Sxs :=
  (.cons (.ite (.cmp .ge (.var 0) (.bin .pow (.cst (.int 10)) (.cst (.int 18))))
  (.cons (.asg (.nm 3) (.idx (.tup (.cons (.cst (.int 1)) (.cons (.cst (.int 7)) (.cons (.cst (.int 49)) (.cons (.cst (.int 343)) (.cons (.cst (.int 2401)) .nil)))))) (.bin .mod (.var 1) (.cst (.int 5)))))
  (.cons (.ret (.bin .fdiv (.bin .mod (.bin .sub (.var 0) (.bin .pow (.cst (.int 10)) (.cst (.int 18)))) (.bin .mul (.var 3) (.var 2))) (.var 3)))
  .nil))
  .nil)
  (.cons (.ite (.cmp .lt (.var 0) (.neg (.bin .pow (.cst (.int 10)) (.cst (.int 18)))))
  (.cons (.asg (.nm 0) (.bin .mod (.var 0) (.cst (.int 1000811284336359577647248616306026718125307353262274591))))
  .nil)
  .nil)
  (.cons (.ret (.bin .mod (.call 10 (.cons (.bin .mul (.bin .add (.var 0) (.bin .mul (.cst (.int 977)) (.var 1))) (.bin .add (.bin .add (.var 0) (.bin .mul (.cst (.int 31)) (.var 1))) (.cst (.int 5)))) (.cons (.bin .add (.bin .mod (.var 1) (.cst (.int 9))) (.cst (.int 1))) (.cons (.cst (.int 999983)) .nil)))) (.var 2)))
  .nil)))
abbrev s__law_pow : Stmt := top 27
def N__law_pow : List Str := ["_law_many", "_law_found", "_law_turn"]
def B__law_pow : Sxs :=
  (.cons (.asg (.nm 1) (.cst (.int 1)))
  (.cons (.for_ (.nm 2) .rng1 (.cons (.var 0) .nil)
  (.cons (.asg (.nm 1) (.bin .mul (.var 1) (.cst (.int 26))))
  .nil))
  (.cons (.ret (.var 1))
  .nil)))
abbrev s__law_numeral : Stmt := top 28
def N__law_numeral : List Str := ["_law_number_here", "_law_kind", "_law_many", "_law_left", "_law_found", "_law_turn", "_law_figures", "_law_worth", "_law_one", "_law_five", "_law_ten", "_law_sign"]
def B__law_numeral : Sxs :=
  (.cons (.ite (.cmp .eq (.var 1) (.cst (.str "figures")))
  (.cons (.ret (.btc .str (.var 0)))
  .nil)
  .nil)
  (.cons (.ite (.cmp .eq (.var 1) (.cst (.str "letters")))
  (.cons (.par3 2 3 4 (.cst (.int 1)) (.bin .sub (.var 0) (.cst (.int 1))) (.cst (.str "")))
  (.cons (.whl (.cmp .ge (.var 3) (.bin .mul (.cst (.int 26)) (.call 12 (.cons (.bin .sub (.var 2) (.cst (.int 1))) .nil))))
  (.cons (.par2 3 2 (.bin .sub (.var 3) (.bin .mul (.cst (.int 26)) (.call 12 (.cons (.bin .sub (.var 2) (.cst (.int 1))) .nil)))) (.bin .add (.var 2) (.cst (.int 1))))
  .nil))
  (.cons (.for_ (.nm 5) .rng1 (.cons (.var 2) .nil)
  (.cons (.par2 4 3 (.bin .add (.idx (.cst (.str "abcdefghijklmnopqrstuvwxyz")) (.bin .mod (.var 3) (.cst (.int 26)))) (.var 4)) (.bin .fdiv (.var 3) (.cst (.int 26))))
  .nil))
  (.cons (.ret (.var 4))
  .nil))))
  .nil)
  (.cons (.asg (.tup [4, 6]) (.tup (.cons (.cst (.str "")) (.cons (.tup (.cons (.cst (.str "")) (.cons (.cst (.str "1")) (.cons (.cst (.str "11")) (.cons (.cst (.str "111")) (.cons (.cst (.str "15")) (.cons (.cst (.str "5")) (.cons (.cst (.str "51")) (.cons (.cst (.str "511")) (.cons (.cst (.str "5111")) (.cons (.cst (.str "1t")) .nil))))))))))) .nil))))
  (.cons (.for_ (.tup [7, 8, 9, 10]) .lst (.cons (.lst (.cons (.tup (.cons (.cst (.int 1000)) (.cons (.cst (.str "m")) (.cons (.cst (.str "")) (.cons (.cst (.str "")) .nil))))) (.cons (.tup (.cons (.cst (.int 100)) (.cons (.cst (.str "c")) (.cons (.cst (.str "d")) (.cons (.cst (.str "m")) .nil))))) (.cons (.tup (.cons (.cst (.int 10)) (.cons (.cst (.str "x")) (.cons (.cst (.str "l")) (.cons (.cst (.str "c")) .nil))))) (.cons (.tup (.cons (.cst (.int 1)) (.cons (.cst (.str "i")) (.cons (.cst (.str "v")) (.cons (.cst (.str "x")) .nil))))) .nil))))) .nil)
  (.cons (.for_ (.nm 11) .str (.cons (.idx (.var 6) (.bin .mod (.bin .fdiv (.var 0) (.var 7)) (.cst (.int 10)))) .nil)
  (.cons (.asg (.nm 4) (.bin .add (.var 4) (.ite (.cmp .eq (.var 11) (.cst (.str "1"))) (.var 8) (.ite (.cmp .eq (.var 11) (.cst (.str "5"))) (.var 9) (.var 10)))))
  .nil))
  .nil))
  (.cons (.ret (.var 4))
  .nil)))))
abbrev s__law_whole : Stmt := top 30
def N__law_whole : List Str := ["_law_found"]
def B__law_whole : Sxs :=
  (.cons (.ret (.and (.cons (.isi (.var 0) .int) (.cons (.not (.isi (.var 0) .bool)) .nil))))
  .nil)
abbrev s__law_value : Stmt := top 29
def N__law_value : List Str := ["_law_text", "_law_kind", "_law_found", "_law_sign", "_law_worths", "_law_behind", "_law_less"]
def B__law_value : Sxs :=
  (.cons (.asg (.nm 2) (.cst (.int 0)))
  (.cons (.ite (.cmp .eq (.var 1) (.cst (.str "figures")))
  (.cons (.ite (.or (.cons (.cmp .eq (.var 0) (.cst (.str ""))) (.cons (.cmp .gt (.blt .len (.cons (.var 0) .nil)) (.cst (.int 4))) (.cons (.not (.blt .all (.cons (.lc 3 .str (.var 0) (.cmp .isin (.var 3) (.cst (.str "0123456789")))) .nil))) .nil))))
  (.cons (.ret (.cst .non))
  .nil)
  .nil)
  (.cons (.asg (.nm 2) (.btc .int (.var 0)))
  .nil))
  (.cons (.ite (.cmp .eq (.var 1) (.cst (.str "letters")))
  (.cons (.ite (.or (.cons (.cmp .gt (.blt .len (.cons (.var 0) .nil)) (.cst (.int 4))) (.cons (.not (.blt .all (.cons (.lc 3 .str (.var 0) (.cmp .isin (.var 3) (.cst (.str "abcdefghijklmnopqrstuvwxyz")))) .nil))) .nil)))
  (.cons (.ret (.cst .non))
  .nil)
  .nil)
  (.cons (.for_ (.nm 3) .str (.cons (.var 0) .nil)
  (.cons (.asg (.nm 2) (.bin .add (.bin .add (.bin .mul (.var 2) (.cst (.int 26))) (.m1 .index (.cst (.str "abcdefghijklmnopqrstuvwxyz")) (.var 3))) (.cst (.int 1))))
  .nil))
  .nil))
  (.cons (.asg (.nm 4) (.dct [(.inr "i", (.int 1)), (.inr "v", (.int 5)), (.inr "x", (.int 10)), (.inr "l", (.int 50)), (.inr "c", (.int 100)), (.inr "d", (.int 500)), (.inr "m", (.int 1000))]))
  (.cons (.ite (.or (.cons (.cmp .gt (.blt .len (.cons (.var 0) .nil)) (.cst (.int 20))) (.cons (.not (.blt .all (.cons (.lc 3 .str (.var 0) (.cmp .isin (.var 3) (.cst (.str "ivxlcdm")))) .nil))) .nil)))
  (.cons (.ret (.cst .non))
  .nil)
  .nil)
  (.cons (.for_ (.tup [3, 5]) .zipS (.cons (.var 0) (.cons (.bin .add (.slc (.var 0) (.cons (.cst (.int 1)) .nil) .nil) (.cst (.str " "))) .nil))
  (.cons (.asg (.nm 6) (.and (.cons (.cmp .ne (.var 5) (.cst (.str " "))) (.cons (.cmp .gt (.dgt (.var 4) (.var 5)) (.dgt (.var 4) (.var 3))) .nil))))
  (.cons (.asg (.nm 2) (.ite (.var 6) (.bin .sub (.var 2) (.dgt (.var 4) (.var 3))) (.bin .add (.var 2) (.dgt (.var 4) (.var 3)))))
  .nil)))
  .nil))))
  .nil))
  (.cons (.ret (.ite (.and (.cons (.chn .le .le (.cst (.int 1)) (.var 2) (.cst (.int 3099))) (.cons (.cmp .eq (.call 13 (.cons (.var 2) (.cons (.var 1) .nil))) (.var 0)) .nil))) (.var 2) (.cst .non)))
  .nil)))
abbrev s__law_cell_at : Stmt := top 24
def N__law_cell_at : List Str := ["_law_script", "_law_k"]
def B__law_cell_at : Sxs :=
  (.cons (.ite (.cmp .lt (.var 1) (.blt .len (.cons (.var 0) .nil)))
  (.cons (.ret (.idx (.var 0) (.var 1)))
  .nil)
  .nil)
  (.cons (.ret (.cst (.int 0)))
  .nil))
abbrev s_law : Stmt := top 31
def N_law : List Str := ["_law_script", "_law_by", "_law_cell", "_law_texts", "_law_number_here", "_law_kind", "_law_text", "_law_at", "_law_sign", "_law_drawn", "_law_turn", "_law_found"]
def B_law : Sxs :=
  (.cons (.for_ (.nm 1) .rng2 (.cons (.cst (.int 0)) (.cons (.blt .max (.cons (.cst (.int 1)) (.cons (.blt .min (.cons (.cst (.int 9)) (.cons (.blt .len (.cons (.var 0) .nil)) .nil))) .nil))) .nil))
  (.cons (.asg (.nm 2) (.call 16 (.cons (.var 0) (.cons (.var 1) .nil))))
  (.cons (.asg (.nm 3) (.lst (.cons (.cst (.str "")) (.cons (.cst (.str "0")) (.cons (.cst (.str "01")) (.cons (.cst (.str "3100")) (.cons (.cst (.str "a")) (.cons (.cst (.str "iiii")) (.cons (.cst (.str "vx")) (.cons (.cst (.str "ic")) (.cons (.cst (.str "mmmm")) (.cons (.cst (.str "mmmxcix")) (.cons (.cst (.str "cmcm")) (.cons (.cst (.str "xlx")) .nil))))))))))))))
  (.cons (.asg (.nm 3) (.bin .add (.var 3) (.lst (.cons (.cst (.str "A")) (.cons (.cst (.str "1a")) (.cons (.cst (.str "edu")) (.cons (.cst (.str "edw")) (.cons (.cst (.str "doe")) (.cons (.cst (.str "dof")) (.cons (.cst (.str "mmmc")) (.cons (.cst (.str "1_0")) (.cons (.cst (.str "+7")) (.cons (.cst (.str " 7")) (.cons (.cst (.str "7 ")) (.cons (.cst (.str "-7")) (.cons (.cst (.str "1e3")) (.cons (.cst (.str "7\n")) .nil)))))))))))))))))
  (.cons (.asg (.nm 3) (.bin .add (.var 3) (.lst (.cons (.cst (.str "a\n")) (.cons (.cst (.str "{")) (.cons (.cst (.str "`")) (.cons (.cst (.str "i\n")) (.cons (.cst (.str "a{")) (.cons (.cst (.str "`a")) .nil)))))))))
  (.cons (.asg (.nm 4) (.bin .add (.cst (.int 1)) (.call 11 (.cons (.var 2) (.cons (.var 1) (.cons (.cst (.int 3099)) .nil))))))
  (.cons (.for_ (.nm 5) .tup (.cons (.tup (.cons (.cst (.str "figures")) (.cons (.cst (.str "letters")) (.cons (.cst (.str "roman")) .nil)))) .nil)
  (.cons (.asg (.nm 6) (.call 13 (.cons (.var 4) (.cons (.var 5) .nil))))
  (.cons (.asg (.nm 7) (.call 11 (.cons (.var 2) (.cons (.bin .add (.var 1) (.cst (.int 1))) (.cons (.bin .add (.blt .len (.cons (.var 6) .nil)) (.cst (.int 1))) .nil)))))
  (.cons (.asg (.nm 8) (.idx (.cst (.str "ivxlcdm0159az")) (.call 11 (.cons (.var 2) (.cons (.bin .add (.var 1) (.cst (.int 2))) (.cons (.cst (.int 13)) .nil))))))
  (.cons (.asg (.nm 3) (.bin .add (.var 3) (.lst (.cons (.bin .add (.bin .add (.slc (.var 6) .nil (.cons (.var 7) .nil)) (.var 8)) (.slc (.var 6) (.cons (.var 7) .nil) .nil)) (.cons (.bin .add (.slc (.var 6) .nil (.cons (.var 7) .nil)) (.slc (.var 6) (.cons (.bin .add (.var 7) (.cst (.int 1))) .nil) .nil)) (.cons (.bin .add (.bin .add (.slc (.var 6) .nil (.cons (.var 7) .nil)) (.var 8)) (.slc (.var 6) (.cons (.bin .add (.var 7) (.cst (.int 1))) .nil) .nil)) .nil))))))
  .nil)))))
  (.cons (.asg (.nm 9) (.cst (.str "")))
  (.cons (.for_ (.nm 10) .rng1 (.cons (.call 11 (.cons (.var 2) (.cons (.bin .add (.var 1) (.cst (.int 3))) (.cons (.cst (.int 6)) .nil)))) .nil)
  (.cons (.asg (.nm 9) (.bin .add (.var 9) (.idx (.cst (.str "ivxcm9b")) (.call 11 (.cons (.bin .add (.var 2) (.var 10)) (.cons (.bin .add (.var 1) (.var 10)) (.cons (.cst (.int 7)) .nil)))))))
  .nil))
  (.cons (.for_ (.nm 6) .lst (.cons (.bin .add (.var 3) (.lst (.cons (.var 9) .nil))) .nil)
  (.cons (.for_ (.nm 5) .tup (.cons (.tup (.cons (.cst (.str "figures")) (.cons (.cst (.str "letters")) (.cons (.cst (.str "roman")) .nil)))) .nil)
  (.cons (.asg (.nm 11) (.call 9 (.cons (.var 6) (.cons (.var 5) .nil))))
  (.cons (.ite (.or (.cons (.cmp .ne (.var 11) (.call 15 (.cons (.var 6) (.cons (.var 5) .nil)))) (.cons (.and (.cons (.cmp .notN (.var 11) (.cst .non)) (.cons (.not (.call 14 (.cons (.var 11) .nil))) .nil))) .nil)))
  (.cons (.ret (.cst (.bl false)))
  .nil)
  .nil)
  .nil)))
  .nil))
  .nil))))))))))
  (.cons (.for_ (.tup [5, 8]) .tup (.cons (.tup (.cons (.tup (.cons (.cst (.str "figures")) (.cons (.cst (.str "9")) .nil))) (.cons (.tup (.cons (.cst (.str "letters")) (.cons (.cst (.str "z")) .nil))) (.cons (.tup (.cons (.cst (.str "roman")) (.cons (.cst (.str "m")) .nil))) .nil)))) .nil)
  (.cons (.ite (.or (.cons (.cmp .notN (.call 9 (.cons (.bin .mul (.var 8) (.cst (.int 5000))) (.cons (.var 5) .nil))) (.cst .non)) (.cons (.cmp .notN (.call 9 (.cons (.bin .mul (.var 8) (.cst (.int 4))) (.cons (.var 5) .nil))) (.cst .non)) .nil)))
  (.cons (.ret (.cst (.bl false)))
  .nil)
  .nil)
  .nil))
  (.cons (.ret (.and (.cons (.cmp .isN (.call 9 (.cons (.cst (.str "edw")) (.cons (.cst (.str "letters")) .nil))) (.cst .non)) (.cons (.cmp .eq (.call 9 (.cons (.cst (.str "ab")) (.cons (.cst (.str "letters")) .nil))) (.cst (.int 28))) .nil))))
  .nil)))

section
variable {aK aR : Addr}
theorem c_is_kind : mSs (mS ⟨N_is_kind, [], gl aK aR, bl⟩ true 40 (defScope s_is_kind)) B_is_kind (defBody s_is_kind) = true := by kernel_rfl
theorem c_check_kind {p0 : Sp} : mSs (mS ⟨N_check_kind, [("is_kind", p0)], gl aK aR, bl⟩ true 40 (defScope s_check_kind)) B_check_kind (defBody s_check_kind) = true := by kernel_rfl
theorem c_in_roman {p0 p1 : Sp} : mSs (mS ⟨N_in_roman, [("is_kind", p0), ("check_kind", p1)], gl aK aR, bl⟩ true 40 (defScope s_in_roman)) B_in_roman (defBody s_in_roman) = true := by kernel_rfl
theorem c_is_number {p0 p1 p2 : Sp} : mSs (mS ⟨N_is_number, [("is_kind", p0), ("check_kind", p1), ("in_roman", p2)], gl aK aR, bl⟩ true 40 (defScope s_is_number)) B_is_number (defBody s_is_number) = true := by kernel_rfl
theorem c_in_letters {p0 p1 p2 p3 : Sp} : mSs (mS ⟨N_in_letters, [("is_kind", p0), ("check_kind", p1), ("in_roman", p2), ("is_number", p3)], gl aK aR, bl⟩ true 40 (defScope s_in_letters)) B_in_letters (defBody s_in_letters) = true := by kernel_rfl
theorem c_numeral {p0 p1 p2 p3 p4 : Sp} : mSs (mS ⟨N_numeral, [("is_kind", p0), ("check_kind", p1), ("in_roman", p2), ("is_number", p3), ("in_letters", p4)], gl aK aR, bl⟩ true 40 (defScope s_numeral)) B_numeral (defBody s_numeral) = true := by kernel_rfl
theorem c_guess_roman {p0 p1 p2 p3 p4 p5 : Sp} : mSs (mS ⟨N_guess_roman, [("is_kind", p0), ("check_kind", p1), ("in_roman", p2), ("is_number", p3), ("in_letters", p4), ("numeral", p5)], gl aK aR, bl⟩ true 40 (defScope s_guess_roman)) B_guess_roman (defBody s_guess_roman) = true := by kernel_rfl
theorem c_guess_places {p0 p1 p2 p3 p4 p5 p6 : Sp} : mSs (mS ⟨N_guess_places, [("is_kind", p0), ("check_kind", p1), ("in_roman", p2), ("is_number", p3), ("in_letters", p4), ("numeral", p5), ("guess_roman", p6)], gl aK aR, bl⟩ true 40 (defScope s_guess_places)) B_guess_places (defBody s_guess_places) = true := by kernel_rfl
theorem c_guess {p0 p1 p2 p3 p4 p5 p6 p7 : Sp} : mSs (mS ⟨N_guess, [("is_kind", p0), ("check_kind", p1), ("in_roman", p2), ("is_number", p3), ("in_letters", p4), ("numeral", p5), ("guess_roman", p6), ("guess_places", p7)], gl aK aR, bl⟩ true 40 (defScope s_guess)) B_guess (defBody s_guess) = true := by kernel_rfl
theorem c_number_of {p0 p1 p2 p3 p4 p5 p6 p7 p8 : Sp} : mSs (mS ⟨N_number_of, [("is_kind", p0), ("check_kind", p1), ("in_roman", p2), ("is_number", p3), ("in_letters", p4), ("numeral", p5), ("guess_roman", p6), ("guess_places", p7), ("guess", p8)], gl aK aR, bl⟩ true 40 (defScope s_number_of)) B_number_of (defBody s_number_of) = true := by kernel_rfl
theorem c__law_draw {p0 p1 p2 p3 p4 p5 p6 p7 p8 p9 : Sp} : mSs (mS ⟨N__law_draw, [("is_kind", p0), ("check_kind", p1), ("in_roman", p2), ("is_number", p3), ("in_letters", p4), ("numeral", p5), ("guess_roman", p6), ("guess_places", p7), ("guess", p8), ("number_of", p9)], gl aK aR, bl⟩ true 40 (defScope s__law_draw)) B__law_draw (defBody s__law_draw) = true := by kernel_rfl
theorem c__law_number {p0 p1 p2 p3 p4 p5 p6 p7 p8 p9 p10 : Sp} : mSs (mS ⟨N__law_number, [("is_kind", p0), ("check_kind", p1), ("in_roman", p2), ("is_number", p3), ("in_letters", p4), ("numeral", p5), ("guess_roman", p6), ("guess_places", p7), ("guess", p8), ("number_of", p9), ("_law_draw", p10)], gl aK aR, bl⟩ true 40 (defScope s__law_number)) B__law_number (defBody s__law_number) = true := by kernel_rfl
theorem c__law_pow {p0 p1 p2 p3 p4 p5 p6 p7 p8 p9 p10 p11 : Sp} : mSs (mS ⟨N__law_pow, [("is_kind", p0), ("check_kind", p1), ("in_roman", p2), ("is_number", p3), ("in_letters", p4), ("numeral", p5), ("guess_roman", p6), ("guess_places", p7), ("guess", p8), ("number_of", p9), ("_law_draw", p10), ("_law_number", p11)], gl aK aR, bl⟩ true 40 (defScope s__law_pow)) B__law_pow (defBody s__law_pow) = true := by kernel_rfl
theorem c__law_numeral {p0 p1 p2 p3 p4 p5 p6 p7 p8 p9 p10 p11 p12 : Sp} : mSs (mS ⟨N__law_numeral, [("is_kind", p0), ("check_kind", p1), ("in_roman", p2), ("is_number", p3), ("in_letters", p4), ("numeral", p5), ("guess_roman", p6), ("guess_places", p7), ("guess", p8), ("number_of", p9), ("_law_draw", p10), ("_law_number", p11), ("_law_pow", p12)], gl aK aR, bl⟩ true 40 (defScope s__law_numeral)) B__law_numeral (defBody s__law_numeral) = true := by kernel_rfl
theorem c__law_whole {p0 p1 p2 p3 p4 p5 p6 p7 p8 p9 p10 p11 p12 p13 : Sp} : mSs (mS ⟨N__law_whole, [("is_kind", p0), ("check_kind", p1), ("in_roman", p2), ("is_number", p3), ("in_letters", p4), ("numeral", p5), ("guess_roman", p6), ("guess_places", p7), ("guess", p8), ("number_of", p9), ("_law_draw", p10), ("_law_number", p11), ("_law_pow", p12), ("_law_numeral", p13)], gl aK aR, bl⟩ true 40 (defScope s__law_whole)) B__law_whole (defBody s__law_whole) = true := by kernel_rfl
theorem c__law_value {p0 p1 p2 p3 p4 p5 p6 p7 p8 p9 p10 p11 p12 p13 p14 : Sp} : mSs (mS ⟨N__law_value, [("is_kind", p0), ("check_kind", p1), ("in_roman", p2), ("is_number", p3), ("in_letters", p4), ("numeral", p5), ("guess_roman", p6), ("guess_places", p7), ("guess", p8), ("number_of", p9), ("_law_draw", p10), ("_law_number", p11), ("_law_pow", p12), ("_law_numeral", p13), ("_law_whole", p14)], gl aK aR, bl⟩ true 40 (defScope s__law_value)) B__law_value (defBody s__law_value) = true := by kernel_rfl
theorem c__law_cell_at {p0 p1 p2 p3 p4 p5 p6 p7 p8 p9 p10 p11 p12 p13 p14 p15 : Sp} : mSs (mS ⟨N__law_cell_at, [("is_kind", p0), ("check_kind", p1), ("in_roman", p2), ("is_number", p3), ("in_letters", p4), ("numeral", p5), ("guess_roman", p6), ("guess_places", p7), ("guess", p8), ("number_of", p9), ("_law_draw", p10), ("_law_number", p11), ("_law_pow", p12), ("_law_numeral", p13), ("_law_whole", p14), ("_law_value", p15)], gl aK aR, bl⟩ true 40 (defScope s__law_cell_at)) B__law_cell_at (defBody s__law_cell_at) = true := by kernel_rfl
theorem c_law {p0 p1 p2 p3 p4 p5 p6 p7 p8 p9 p10 p11 p12 p13 p14 p15 p16 : Sp} : mSs (mS ⟨N_law, [("is_kind", p0), ("check_kind", p1), ("in_roman", p2), ("is_number", p3), ("in_letters", p4), ("numeral", p5), ("guess_roman", p6), ("guess_places", p7), ("guess", p8), ("number_of", p9), ("_law_draw", p10), ("_law_number", p11), ("_law_pow", p12), ("_law_numeral", p13), ("_law_whole", p14), ("_law_value", p15), ("_law_cell_at", p16)], gl aK aR, bl⟩ true 40 (defScope s_law)) B_law (defBody s_law) = true := by kernel_rfl
end
end K1

end

section
set_option Elab.async false
set_option linter.all false
set_option maxRecDepth 100000
namespace K1
open PySem PySem.Spec PyProof.Rows L2 EV TL
def isNumberM : List V → Option V
  | [.int n, .int lo, .int hi] => some (.bl (decide (lo ≤ n) && decide (n ≤ hi)))
  | _ => none
theorem r_is_number {fn : List (Str × Sp)} {aK aR : Addr} {K : PySem.W.Frag} {n lo hi : Int} {H : Hp} {Q : VK} (h : Q (.bl (decide (lo ≤ n) && decide (n ≤ hi))) H) : rdSs ⟨N_is_number, fn, gl aK aR, bl⟩ K B_is_number { nx := fun _ H' => Q .non H', rt := Q } (L2.start N_is_number [.int n, .int lo, .int hi]) H := by
  show (if decide (lo ≤ n) = true then Q (.bl (decide (n ≤ hi))) H else Q (.bl false) H)
  by_cases h1 : lo ≤ n
  · rw [if_pos (by simpa using h1)]
    simpa [h1] using h
  · rw [if_neg (by simpa using h1)]
    simpa [h1] using h
def isKindB (x : Str) : Bool := x == "figures" || x == "letters" || x == "roman"
def kindsV : List V := [.str "figures", .str "letters", .str "roman"]
theorem r_is_kind {fn : List (Str × Sp)} {aK aR : Addr} {K : PySem.W.Frag} {x : Str} {H : Hp} {Q : VK} (hK : SqT K H aK kindsV) (h : Q (.bl (isKindB x)) H) :
   rdSs ⟨N_is_kind, fn, gl aK aR, bl⟩ K B_is_kind { nx := fun _ H' => Q .non H', rt := Q } (L2.start N_is_kind [.str x]) H := by
  refine ⟨kindsV, .inr hK, rfl, rfl, ?_⟩
  have e : inV (.str x) kindsV = isKindB x := by
    show ((("figures" : Str) == x) || ((("letters" : Str) == x) || ((("roman" : Str) == x) || false))) = _
    unfold isKindB
    rw [BEq.comm (a := ("figures" : Str)), BEq.comm (a := ("letters" : Str)), BEq.comm (a := ("roman" : Str)), Bool.or_false, Bool.or_assoc]
  rw [e]
  exact h
def isKindM : List V → Option V
  | [.str x] => some (.bl (isKindB x))
  | _ => none
/-- the module's tables: the rows of the Roman figures with their addresses -/
structure Tabs (K : PySem.W.Frag) (aK aR : Addr) (rs : List (Addr × List Nat × Nat)) : Prop where
  k : ∀ H, SqT K H aK kindsV
  r : ∀ H, SqT K H aR (rs.map fun p => V.ref p.1)
  w : ∀ p ∈ rs, ∀ H, SqT K H p.1 [.str (mk p.2.1), .int (p.2.2 : Nat)]
  e : rs.map (·.2) = ROM
theorem LET_tl : tl LET = LETc := by decide +kernel
theorem FIG_tl : tl FIG = FIGc := by decide +kernel
theorem LET_len : LET.length = 26 := by decide +kernel
theorem FIG_len : FIG.length = 10 := by decide +kernel
theorem r_check_kind {aK aR : Addr} {K : PySem.W.Frag} {x : Str} {H : Hp} {Q : VK} (nt : NoT H) (hx : isKindB x = true) (h : Q .non H) :
   rdSs ⟨N_check_kind, [("is_kind", spP isKindM)], gl aK aR, bl⟩ K B_check_kind { nx := fun _ H' => Q .non H', rt := Q } (L2.start N_check_kind [.str x]) H := by
  refine ⟨nt, ?_⟩
  show (if (!(isKindB x)) = true then False else Q .non H)
  rw [hx]
  exact h
def checkKindM : List V → Option V
  | [.str x] => if isKindB x = true then some .non else none
  | _ => none

section
variable {fn : List (Str × Sp)} {aK aR : Addr} {K : PySem.W.Frag}
/-- the ends of a loop's body -/
abbrev again (D : Ends) (n : L2.St → Hp → Prop) : Ends := { D with nx := n, ct := n, bk := D.nx }
theorem whl_go {c : TT} {tb : TS} {n : Nat} {D : Ends} {σ : L2.St} {H : Hp} {b : Bool} (e : ∀ Q : Bool → Hp → Prop, c σ H Q = Q b H) (h : if b = true then tb (again D (whlN c tb n D)) σ H else D.nx σ H) : whlN c tb (n + 1) D σ H := by
  show c σ H _
  rw [e]
  exact h
theorem whl_t {c : TT} {tb : TS} {n : Nat} {D : Ends} {σ : L2.St} {H : Hp} {b : Bool} (e : ∀ Q : Bool → Hp → Prop, c σ H Q = Q b H) (hb : b = true) (h : tb (again D (whlN c tb n D)) σ H) : whlN c tb (n + 1) D σ H :=
  whl_go e (by rw [if_pos hb]; exact h)
theorem whl_f {c : TT} {tb : TS} {n : Nat} {D : Ends} {σ : L2.St} {H : Hp} {b : Bool} (e : ∀ Q : Bool → Hp → Prop, c σ H Q = Q b H) (hb : b = false) (h : D.nx σ H) : whlN c tb (n + 1) D σ H :=
  whl_go e (by rw [if_neg (by rw [hb]; exact Bool.false_ne_true)]; exact h)
def cLet : Ex := .cmp .gt (.var 2) (.cst (.int 0))
def wLet : Sxs := (.cons (.dvm 2 3 (.bin .sub (.var 2) (.cst (.int 1))) (.blt .len (.cons (.glb 2) .nil)))
  (.cons (.asg (.nm 1) (.bin .add (.idx (.glb 2) (.var 3)) (.var 1)))
  .nil))
abbrev Glet (fn : List (Str × Sp)) (aK aR : Addr) : Gm := ⟨N_in_letters, fn, gl aK aR, bl⟩
theorem let_loop : ∀ (f n : Nat) (acc : List Nat) (D : Ends) (n0 : V) (v : Option V) (H : Hp), n ≤ letB f → acc.length + f ≤ 100 → (∀ v, D.nx [some n0, some (.str (mk (letL f n acc))), some (.int 0), v] H) →
    whlN (rdT (Glet fn aK aR) K cLet) (rdSs (Glet fn aK aR) K wLet) (f + 1) D [some n0, some (.str (mk acc)), some (.int n), v] H
  | f, 0, acc, D, n0, v, H, _, _, hD => by
    refine whl_f (b := decide ((0 : Int) < ((0 : Nat) : Int))) (fun _ => rfl) (by decide) ?_
    have e : letL f 0 acc = acc := by cases f <;> rfl
    have := hD v
    rw [e] at this
    exact this
  | 0, n + 1, _, _, _, _, _, h, _, _ => by
    exact absurd h (by show ¬ n + 1 ≤ 0; omega)
  | f + 1, n + 1, acc, D, n0, v, H, h, hl, hD => by
    have h : n + 1 ≤ 26 * letB f + 26 := h
    have hm : n % 26 < 26 := Nat.mod_lt _ (by decide)
    have e1 : (((n + 1 : Nat) : Int) - 1) / (LET.length : Int) = ((n / 26 : Nat) : Int) := by rw [LET_len]; omega
    have e2 : (((n + 1 : Nat) : Int) - 1) % (LET.length : Int) = ((n % 26 : Nat) : Int) := by rw [LET_len]; omega
    have hc : LETc[n % 26]? = some (97 + n % 26) := by
      have : ∀ i, i < 26 → LETc[i]? = some (97 + i) := by decide
      exact this _ hm
    have ih := let_loop f (n / 26) ((97 + n % 26) :: acc) D n0 (some (.int ((n % 26 : Nat) : Int))) H (by omega) (by rw [List.length_cons]; omega) (fun v => hD v)
    have ih' : whlN (rdT (Glet fn aK aR) K cLet) (rdSs (Glet fn aK aR) K wLet) (f + 1) D [some n0, some (.str (mk [97 + n % 26] ++ mk acc)), some (.int ((((n + 1 : Nat) : Int) - 1) / (LET.length : Int))), some (.int ((((n + 1 : Nat) : Int) - 1) % (LET.length : Int)))] H := by
      rw [e1, e2, mk_app]
      exact ih
    refine whl_t (b := decide ((0 : Int) < ((n + 1 : Nat) : Int))) (fun _ => rfl) (by rw [decide_eq_true_eq]; omega) ?_
    refine ⟨by rw [LET_len]; decide, ⟨by rw [LET_len]; decide, by rw [LET_len]; decide⟩, by rw [LET_len]; decide, 97 + n % 26, ?_, ?_, ?_⟩
    · show atI (tl LET) ((((n + 1 : Nat) : Int) - 1) % (LET.length : Int)) = _
      rw [e2, LET_tl]
      exact atI_nat hc
    · show 1 + (mk acc).length ≤ sizeLine
      rw [mk_len]
      exact sz _ (by omega)
    · exact ih'
theorem r_in_letters {n : Nat} {H : Hp} {Q : VK} (hn : n ≤ 3099) (h : Q (.str (mk (letL 3 n []))) H) : rdSs ⟨N_in_letters, fn, gl aK aR, bl⟩ K B_in_letters { nx := fun _ H' => Q .non H', rt := Q } (L2.start N_in_letters [.int n]) H := by
  refine ⟨4, ?_⟩
  exact let_loop 3 n [] _ (.int n) none H (by show n ≤ 18278; omega) (by decide) fun v => h
/-! ### in_roman -/
def cRom : Ex := .cmp .ge (.var 2) (.var 4)
def wRom : Sxs := (.cons (.aug 1 .add (.var 3))
  (.cons (.aug 2 .sub (.var 4))
  .nil))
abbrev Grom (fn : List (Str × Sp)) (aK aR : Addr) : Gm := ⟨N_in_roman, fn, gl aK aR, bl⟩
theorem rom_while : ∀ (f w : Nat) (s : List Nat) (n : Nat) (acc : List Nat) (D : Ends) (n0 : V) (H : Hp), n < w * (f + 1) → acc.length + s.length * (f + 1) ≤ 1000 → D.nx [some n0, some (.str (mk (romT f w s n acc).2)), some (.int ((romT f w s n acc).1 : Nat)), some (.str (mk s)), some (.int w)] H →
    whlN (rdT (Grom fn aK aR) K cRom) (rdSs (Grom fn aK aR) K wRom) (f + 1) D [some n0, some (.str (mk acc)), some (.int n), some (.str (mk s)), some (.int w)] H
  | f, w, s, n, acc, D, n0, H, h, hl, hD => by
    by_cases hw : w ≤ n
    · refine whl_t (b := decide ((w : Int) ≤ (n : Int))) (fun _ => rfl) (by rw [decide_eq_true_eq]; omega) ?_
      cases f with
      | zero => exact absurd h (by rw [Nat.zero_add, Nat.mul_one]; omega)
      | succ f =>
        have hz : acc.length + s.length ≤ 1000 := by
          have : s.length * (f + 1 + 1) = s.length * (f + 1) + s.length := Nat.mul_succ _ _
          omega
        have hD' : D.nx [some n0, some (.str (mk (romT f w s (n - w) (acc ++ s)).2)), some (.int ((romT f w s (n - w) (acc ++ s)).1 : Nat)), some (.str (mk s)), some (.int w)] H := by
          have e : romT (f + 1) w s n acc = romT f w s (n - w) (acc ++ s) := if_pos hw
          rw [e] at hD
          exact hD
        have ih := rom_while f w s (n - w) (acc ++ s) D n0 H (by have : w * (f + 1 + 1) = w * (f + 1) + w := Nat.mul_succ _ _; omega) (by have : s.length * (f + 1 + 1) = s.length * (f + 1) + s.length := Nat.mul_succ _ _; rw [List.length_append]; omega) hD'
        have ih' : whlN (rdT (Grom fn aK aR) K cRom) (rdSs (Grom fn aK aR) K wRom) (f + 1) D [some n0, some (.str (mk acc ++ mk s)), some (.int ((n : Int) - (w : Int))), some (.str (mk s)), some (.int w)] H := by
          rw [mk_app, show (n : Int) - (w : Int) = ((n - w : Nat) : Int) by omega]
          exact ih
        refine ⟨?_, ih'⟩
        show (mk acc).length + (mk s).length ≤ sizeLine
        rw [mk_len, mk_len]
        exact sz _ (by omega)
    · refine whl_f (b := decide ((w : Int) ≤ (n : Int))) (fun _ => rfl) (by rw [decide_eq_false_iff_not]; omega) ?_
      have e : romT f w s n acc = (n, acc) := by
        cases f with
        | zero => rfl
        | succ f => exact if_neg hw
      rw [e] at hD
      exact hD
def bRom : Sxs := .cons (.whl cRom wRom) .nil
theorem romT_len : ∀ (f w : Nat) (s : List Nat) (n : Nat) (acc : List Nat), (romT f w s n acc).2.length ≤ acc.length + s.length * f
  | 0, w, s, n, acc => by show acc.length ≤ _; omega
  | f + 1, w, s, n, acc => by
    unfold romT
    by_cases h : w ≤ n
    · rw [if_pos h]
      have := romT_len f w s (n - w) (acc ++ s)
      rw [List.length_append] at this
      have e : s.length * (f + 1) = s.length * f + s.length := Nat.mul_succ _ _
      omega
    · rw [if_neg h]
      show acc.length ≤ _
      omega
theorem rom_rows (chk : Hp → Prop) : ∀ (rs : List (Addr × List Nat × Nat)) (n : Nat) (acc : List Nat) (D : Ends) (n0 : V) (u v : Option V) (H : Hp), chk H → (∀ p ∈ rs, ∀ H, SqT K H p.1 [.str (mk p.2.1), .int (p.2.2 : Nat)]) → (∀ p ∈ rs, p.2.1.length ≤ 2) → romOk (rs.map (·.2)) n = true → acc.length + 10 * rs.length ≤ 500 →
    (∀ m u v, D.nx [some n0, some (.str (mk (romL (rs.map (·.2)) n acc))), some (.int m), u, v] H) →
    forL chk (rdG K (.tup [3, 4])) (rdSs (Grom fn aK aR) K bRom) (rs.map fun p => V.ref p.1) D [some n0, some (.str (mk acc)), some (.int n), u, v] H
  | [], n, acc, D, n0, u, v, H, hc, _, _, _, _, hD => ⟨hc, hD n u v⟩
  | (a, s, w) :: rs, n, acc, D, n0, u, v, H, hc, ht, h2, ho, hl, hD => by
    have ho : (decide (n < 4 * w) && romOk (rs.map (·.2)) (romT 4 w s n []).1) = true := ho
    rw [Bool.and_eq_true, decide_eq_true_eq] at ho
    have hs : s.length ≤ 2 := h2 (a, s, w) List.mem_cons_self
    have hl : acc.length + 10 * (rs.length + 1) ≤ 500 := hl
    refine ⟨hc, _, ht (a, s, w) List.mem_cons_self H, 5, ?_⟩
    refine rom_while 4 w s n acc _ n0 H (by omega) (by have : s.length * 5 ≤ 2 * 5 := Nat.mul_le_mul_right _ hs; omega) ?_
    have hlen := romT_len 4 w s n acc
    have hlen2 : s.length * 4 ≤ 2 * 4 := Nat.mul_le_mul_right _ hs
    refine rom_rows chk rs (romT 4 w s n acc).1 (romT 4 w s n acc).2 D n0 _ _ H hc (fun p hp => ht p (List.mem_cons_of_mem _ hp)) (fun p hp => h2 p (List.mem_cons_of_mem _ hp)) (by rw [romT_1 4 w s n acc []]; exact ho.2) (by omega) (fun m u v => hD m u v)
theorem r_in_roman {rs : List (Addr × List Nat × Nat)} (T : Tabs K aK aR rs) {n : Nat} {H : Hp} {Q : VK} (h1 : 1 ≤ n) (hn : n ≤ 3099) (h : Q (.str (mk (romL ROM n []))) H) :
    rdSs ⟨N_in_roman, fn, gl aK aR, bl⟩ K B_in_roman { nx := fun _ H' => Q .non H', rt := Q } (L2.start N_in_roman [.int n]) H := by
  have hrl : rs.length = 13 := by
    have := congrArg List.length T.e
    rwa [List.length_map] at this
  have h2 : ∀ p ∈ rs, p.2.1.length ≤ 2 := fun p hp => by
    have hm : p.2 ∈ ROM := by rw [← T.e]; exact List.mem_map.mpr ⟨p, hp, rfl⟩
    have : ∀ q ∈ ROM, q.1.length ≤ 2 := by decide
    exact this _ hm
  refine ⟨rs.map fun p => V.ref p.1, ?_⟩
  refine rom_rows (fun H => SqT K H aR (rs.map fun p => V.ref p.1)) rs n [] _ (.int n) none none H (T.r H) T.w h2 (by rw [T.e]; exact allN_ok rom_all h1 hn) (by rw [hrl]; decide) fun m u v => ?_
  rw [T.e]
  exact h
end
end K1

end

section
set_option Elab.async false
set_option linter.all false
set_option maxRecDepth 100000
namespace K1
open PySem PySem.Spec PyProof.Rows L2 EV TL
def kidx (k : Str) : Option Nat := if k = "figures" then some 0 else if k = "letters" then some 1 else if k = "roman" then some 2 else none
theorem kidx_kind {k : Str} {i : Nat} (h : kidx k = some i) : isKindB k = true := by
  unfold kidx at h
  unfold isKindB
  split at h
  · next e => rw [e]; decide +kernel
  · split at h
    · next e => rw [e]; decide +kernel
    · split at h
      · next e => rw [e]; decide +kernel
      · cases h
def inRomanM : List V → Option V
  | [.int n] => if 1 ≤ n ∧ n ≤ 3099 then some (.str (mk (romL ROM n.toNat []))) else none
  | _ => none
def inLettersM : List V → Option V
  | [.int n] => if 1 ≤ n ∧ n ≤ 3099 then some (.str (mk (letL 3 n.toNat []))) else none
  | _ => none
def numeralM : List V → Option V
  | [.int n, .str k] => if 1 ≤ n ∧ n ≤ 3099 then (kidx k).map fun i => .str (mk (numL i n.toNat)) else none
  | _ => none
def guessPlacesM : List V → Option V
  | [.str t, .str s, .int lo] => if s.length ≤ 1000 then some (.int (plcL (tl s) lo (tl t) 0)) else none
  | _ => none
def guessRomanM : List V → Option V
  | [.str t] => if t.length ≤ 14 then some (.int (grL ROM 0 (tl t))) else none
  | _ => none
def guessM : List V → Option V
  | [.str t, .str k] => if t.length ≤ 14 then (kidx k).map fun i => .int (guessL i (tl t)) else none
  | _ => none
def nofV : Option Nat → V
  | some n => .int n
  | none => .non
def numberOfM : List V → Option V
  | [.str t, .str k] => if t.length ≤ 1000000 then (kidx k).map fun i => nofV (nofL i (tl t)) else none
  | _ => none
abbrev F5 : List (Str × Sp) := [("is_kind", spP isKindM), ("check_kind", spP checkKindM), ("in_roman", spP inRomanM), ("is_number", spP isNumberM), ("in_letters", spP inLettersM)]
abbrev F8 : List (Str × Sp) := [("is_kind", spP isKindM), ("check_kind", spP checkKindM), ("in_roman", spP inRomanM), ("is_number", spP isNumberM), ("in_letters", spP inLettersM), ("numeral", spP numeralM), ("guess_roman", spP guessRomanM), ("guess_places", spP guessPlacesM)]
abbrev F9 : List (Str × Sp) := [("is_kind", spP isKindM), ("check_kind", spP checkKindM), ("in_roman", spP inRomanM), ("is_number", spP isNumberM), ("in_letters", spP inLettersM), ("numeral", spP numeralM), ("guess_roman", spP guessRomanM), ("guess_places", spP guessPlacesM), ("guess", spP guessM)]
/-- the value of a pure call -/
theorem spP_go {f : List V → Option V} {vs : List V} {H : Hp} {Q : VK} {E : XK} {v : V} (nt : NoT H) (e : f vs = some v) (h : Q v H) : spP f vs H Q E := ⟨nt, outV_go e h⟩
theorem ite_t {c : Prop} [Decidable c] {A B : Prop} (hc : c) (h : A) : if c then A else B := by rw [if_pos hc]; exact h
theorem ite_f {c : Prop} [Decidable c] {A B : Prop} (hc : ¬ c) (h : B) : if c then A else B := by rw [if_neg hc]; exact h
section
variable {fn : List (Str × Sp)} {aK aR : Addr} {K : PySem.W.Frag}
theorem dec_true {p : Prop} [Decidable p] (h : p) : decide p = true := decide_eq_true h
theorem dec_false {p : Prop} [Decidable p] (h : ¬ p) : decide p = false := decide_eq_false h
theorem fig_str (n : Nat) : Str.ofString (toString (n : Int)) = mk (figL n) := ext_tl (by rw [tl_ofString]; rfl)
theorem log_small {n : Nat} (h : n ≤ 3099) : (n : Int).natAbs.log2 < 1920 := by
  rw [Int.natAbs_natCast]
  by_cases h0 : n = 0
  · subst h0; decide
  · have := (Nat.log2_lt h0).mpr (show n < 2 ^ 12 by omega)
    omega
theorem r_numeral {n : Nat} {k : Str} {i : Nat} {H : Hp} {Q : VK} (nt : NoT H) (h1 : 1 ≤ n) (h2 : n ≤ 3099) (hk : kidx k = some i) (h : Q (.str (mk (numL i n))) H) :
    rdSs ⟨N_numeral, F5, gl aK aR, bl⟩ K B_numeral { nx := fun _ H' => Q .non H', rt := Q } (L2.start N_numeral [.int n, .str k]) H := by
  refine ⟨nt, ?_⟩
  refine outV_go (v := .bl true) ?_ ?_
  · show some (V.bl (decide ((1 : Int) ≤ (n : Int)) && decide ((n : Int) ≤ 3099))) = _
    rw [dec_true (by omega), dec_true (by omega)]
    rfl
  refine ⟨nt, outV_go (v := .non) ?_ ?_⟩
  · show (if isKindB k = true then some V.non else none) = _
    rw [if_pos (kidx_kind hk)]
  unfold kidx at hk
  by_cases e0 : k = "figures"
  · rw [if_pos e0] at hk
    cases hk
    refine (show (if decide (k = "figures") = true then ((n : Int).natAbs.log2 < 1920 ∧ Q (.str (Str.ofString (toString (n : Int)))) H) else _) from ite_t (dec_true e0) ⟨log_small h2, ?_⟩)
    rw [fig_str]
    exact h
  · rw [if_neg e0] at hk
    have en : (n : Int).toNat = n := Int.toNat_natCast n
    by_cases e1 : k = "letters"
    · rw [if_pos e1] at hk
      cases hk
      refine (show (if decide (k = "figures") = true then ((n : Int).natAbs.log2 < 1920 ∧ Q (.str (Str.ofString (toString (n : Int)))) H) else (if decide (k = "letters") = true then spP inLettersM [.int n] H Q E0 else spP inRomanM [.int n] H Q E0)) from ite_f (by rw [dec_false e0]; decide) (ite_t (dec_true e1) (spP_go nt ?_ h)))
      show (if (1 : Int) ≤ n ∧ (n : Int) ≤ 3099 then _ else _) = _
      rw [if_pos ⟨by omega, by omega⟩, en]
      rfl
    · rw [if_neg e1] at hk
      by_cases e2 : k = "roman"
      · rw [if_pos e2] at hk
        cases hk
        refine (show (if decide (k = "figures") = true then ((n : Int).natAbs.log2 < 1920 ∧ Q (.str (Str.ofString (toString (n : Int)))) H) else (if decide (k = "letters") = true then spP inLettersM [.int n] H Q E0 else spP inRomanM [.int n] H Q E0)) from ite_f (by rw [dec_false e0]; decide) (ite_f (by rw [dec_false e1]; decide) (spP_go nt ?_ h)))
        show (if (1 : Int) ≤ n ∧ (n : Int) ≤ 3099 then _ else _) = _
        rw [if_pos ⟨by omega, by omega⟩, en]
        rfl
      · rw [if_neg e2] at hk
        cases hk
/-! ### guess_places -/
theorem posL_eq : ∀ (l : List Nat) (c k : Nat), posL l c k = posN l c k
  | [], _, _ => rfl
  | d :: r, c, k => by
    unfold posL posN
    rw [posL_eq r c (k + 1)]
def bPlc : Sxs := (.cons (.asg (.nm 3) (.bin .add (.bin .add (.bin .mul (.var 3) (.blt .len (.cons (.var 1) .nil))) (.m1 .find (.var 1) (.var 4))) (.var 2)))
  .nil)
theorem plc_loop {s : Str} {lo : Int} (hs : s.length ≤ 1000) {t : V} : ∀ (l : List Nat) (z : Int) (D : Ends) (u : Option V) (H : Hp), (∀ u, D.nx [some t, some (.str s), some (.int lo), some (.int (plcL (tl s) lo l z)), u] H) →
    forL (fun _ => True) (rdG K (.nm 4)) (rdSs ⟨N_guess_places, fn, gl aK aR, bl⟩ K bPlc) (l.map fun c => V.str ⟨#[c]⟩) D [some t, some (.str s), some (.int lo), some (.int z), u] H
  | [], z, D, u, H, h => ⟨True.intro, h u⟩
  | c :: r, z, D, u, H, h => by
    refine ⟨True.intro, sz _ (by omega), .inr (.inr ⟨by omega, by omega⟩), ?_⟩
    have ih := plc_loop hs r (z * (s.length : Int) + Txt.find s ⟨#[c]⟩ + lo) D (some (.str ⟨#[c]⟩)) H (fun u => by
      have := h u
      have e : plcL (tl s) lo (c :: r) z = plcL (tl s) lo r (z * (s.length : Int) + Txt.find s ⟨#[c]⟩ + lo) := by
        show plcL (tl s) lo r (z * ((tl s).length : Int) + posL (tl s) c 0 + lo) = _
        rw [find_one, posL_eq, len_tl]
      rw [e] at this
      exact this)
    exact ih
theorem r_guess_places {t s : Str} {lo : Int} {H : Hp} {Q : VK} (hs : s.length ≤ 1000) (h : Q (.int (plcL (tl s) lo (tl t) 0)) H) :
    rdSs ⟨N_guess_places, fn, gl aK aR, bl⟩ K B_guess_places { nx := fun _ H' => Q .non H', rt := Q } (L2.start N_guess_places [.str t, .str s, .int lo]) H :=
  plc_loop hs (tl t) 0 _ none H fun u => h
/-! ### guess_roman -/
def cGr : Ex := .m1 .startswith (.var 2) (.var 3)
def wGr : Sxs := (.cons (.aug 1 .add (.var 4))
  (.cons (.asg (.nm 2) (.slc (.var 2) (.cons (.blt .len (.cons (.var 3) .nil)) .nil) .nil))
  .nil))
abbrev Ggr (fn : List (Str × Sp)) (aK aR : Addr) : Gm := ⟨N_guess_roman, fn, gl aK aR, bl⟩
theorem prL_len {s l : List Nat} (h : prL s l = true) : s.length ≤ l.length := by
  unfold prL at h
  have := congrArg List.length (eq_of_beq h)
  rw [List.length_take] at this
  omega
theorem gr_while : ∀ (f w : Nat) (s : List Nat) (z : Int) (l : List Nat) (D : Ends) (t : V) (H : Hp), s ≠ [] → s.length ≤ 2 → l.length ≤ f → l.length ≤ 14 → D.nx [some t, some (.int (grT f w s z l).1), some (.str (mk (grT f w s z l).2)), some (.str (mk s)), some (.int w)] H →
    whlN (rdT (Ggr fn aK aR) K cGr) (rdSs (Ggr fn aK aR) K wGr) (f + 1) D [some t, some (.int z), some (.str (mk l)), some (.str (mk s)), some (.int w)] H
  | f, w, s, z, l, D, t, H, hs, hs2, hl, hl2, hD => by
    have est : Txt.startswith (mk l) (mk s) = prL s l := starts_pre (mk l) (mk s) hs
    by_cases hp : prL s l = true
    · refine whl_t (b := Txt.startswith (mk l) (mk s)) (fun _ => rfl) (by rw [est]; exact hp) ?_
      have hle := prL_len hp
      have hs1 : 1 ≤ s.length := by
        cases s with
        | nil => exact absurd rfl hs
        | cons _ _ => rw [List.length_cons]; omega
      cases f with
      | zero => omega
      | succ f =>
        have hD' : D.nx [some t, some (.int (grT f w s (z + w) (l.drop s.length)).1), some (.str (mk (grT f w s (z + w) (l.drop s.length)).2)), some (.str (mk s)), some (.int w)] H := by
          have e : grT (f + 1) w s z l = grT f w s (z + w) (l.drop s.length) := if_pos hp
          rw [e] at hD
          exact hD
        have ih := gr_while f w s (z + w) (l.drop s.length) D t H hs hs2 (by rw [List.length_drop]; omega) (by rw [List.length_drop]; omega) hD'
        have ih' : whlN (rdT (Ggr fn aK aR) K cGr) (rdSs (Ggr fn aK aR) K wGr) (f + 1) D [some t, some (.int (z + (w : Int))), some (.str (cutS (mk l) (some ((mk s).length : Int)) none)), some (.str (mk s)), some (.int w)] H := by
          rw [cutS_drop, mk_len]
          exact ih
        exact ⟨by rw [mk_len]; exact sz _ (by omega), by rw [mk_len]; exact sz _ (by omega), ih'⟩
    · refine whl_f (b := Txt.startswith (mk l) (mk s)) (fun _ => rfl) (by rw [est]; simpa using hp) ?_
      have e : grT f w s z l = (z, l) := by
        cases f with
        | zero => rfl
        | succ f => exact if_neg hp
      rw [e] at hD
      exact hD
theorem grT_len : ∀ (f w : Nat) (s : List Nat) (z : Int) (l : List Nat), (grT f w s z l).2.length ≤ l.length
  | 0, _, _, _, l => Nat.le_refl _
  | f + 1, w, s, z, l => by
    unfold grT
    by_cases h : prL s l = true
    · rw [if_pos h]
      have := grT_len f w s (z + w) (l.drop s.length)
      rw [List.length_drop] at this
      omega
    · rw [if_neg h]
      exact Nat.le_refl _
def bGr : Sxs := .cons (.whl cGr wGr) .nil
theorem gr_rows (chk : Hp → Prop) : ∀ (rs : List (Addr × List Nat × Nat)) (z : Int) (l : List Nat) (D : Ends) (t : V) (u v : Option V) (H : Hp), chk H → (∀ p ∈ rs, ∀ H, SqT K H p.1 [.str (mk p.2.1), .int (p.2.2 : Nat)]) → (∀ p ∈ rs, p.2.1 ≠ [] ∧ p.2.1.length ≤ 2) → l.length ≤ 14 →
    (∀ m u v, D.nx [some t, some (.int (grL (rs.map (·.2)) z l)), some m, u, v] H) →
    forL chk (rdG K (.tup [3, 4])) (rdSs (Ggr fn aK aR) K bGr) (rs.map fun p => V.ref p.1) D [some t, some (.int z), some (.str (mk l)), u, v] H
  | [], z, l, D, t, u, v, H, hc, _, _, _, hD => ⟨hc, hD _ u v⟩
  | (a, s, w) :: rs, z, l, D, t, u, v, H, hc, ht, h2, hl, hD => by
    obtain ⟨hs, hs2⟩ : s ≠ [] ∧ s.length ≤ 2 := h2 (a, s, w) List.mem_cons_self
    refine ⟨hc, _, ht (a, s, w) List.mem_cons_self H, 16, ?_⟩
    refine gr_while 15 w s z l _ t H hs hs2 (by omega) hl ?_
    have hlen := grT_len 15 w s z l
    exact gr_rows chk rs (grT 15 w s z l).1 (grT 15 w s z l).2 D t _ _ H hc (fun p hp => ht p (List.mem_cons_of_mem _ hp)) (fun p hp => h2 p (List.mem_cons_of_mem _ hp)) (by omega) (fun m u v => hD m u v)
theorem r_guess_roman {rs : List (Addr × List Nat × Nat)} (T : Tabs K aK aR rs) {t : Str} {H : Hp} {Q : VK} (hl : t.length ≤ 14) (h : Q (.int (grL ROM 0 (tl t))) H) :
    rdSs ⟨N_guess_roman, fn, gl aK aR, bl⟩ K B_guess_roman { nx := fun _ H' => Q .non H', rt := Q } (L2.start N_guess_roman [.str t]) H := by
  have h2 : ∀ p ∈ rs, p.2.1 ≠ [] ∧ p.2.1.length ≤ 2 := fun p hp => by
    have hm : p.2 ∈ ROM := by rw [← T.e]; exact List.mem_map.mpr ⟨p, hp, rfl⟩
    have : ∀ q ∈ ROM, q.1 ≠ [] ∧ q.1.length ≤ 2 := by decide
    exact this _ hm
  refine ⟨rs.map fun p => V.ref p.1, ?_⟩
  refine gr_rows (fun H => SqT K H aR (rs.map fun p => V.ref p.1)) rs 0 (tl t) _ (.str t) none none H (T.r H) T.w h2 (by rw [← len_tl]; exact hl) fun m u v => ?_
  rw [T.e]
  exact h
theorem r_guess {t k : Str} {i : Nat} {H : Hp} {Q : VK} (nt : NoT H) (hl : t.length ≤ 14) (hk : kidx k = some i) (h : Q (.int (guessL i (tl t))) H) :
    rdSs ⟨N_guess, F8, gl aK aR, bl⟩ K B_guess { nx := fun _ H' => Q .non H', rt := Q } (L2.start N_guess [.str t, .str k]) H := by
  unfold kidx at hk
  refine (show (if decide (k = "figures") = true then spP guessPlacesM [.str t, .str FIG, .int 0] H Q E0 else (if decide (k = "letters") = true then spP guessPlacesM [.str t, .str LET, .int 1] H Q E0 else spP guessRomanM [.str t] H Q E0)) from ?_)
  by_cases e0 : k = "figures"
  · rw [if_pos e0] at hk
    cases hk
    refine ite_t (dec_true e0) (spP_go nt ?_ h)
    show (if FIG.length ≤ 1000 then some (V.int (plcL (tl FIG) 0 (tl t) 0)) else none) = _
    rw [if_pos (by rw [FIG_len]; decide), FIG_tl]
    rfl
  · rw [if_neg e0] at hk
    refine ite_f (by rw [dec_false e0]; decide) ?_
    by_cases e1 : k = "letters"
    · rw [if_pos e1] at hk
      cases hk
      refine ite_t (dec_true e1) (spP_go nt ?_ h)
      show (if LET.length ≤ 1000 then some (V.int (plcL (tl LET) 1 (tl t) 0)) else none) = _
      rw [if_pos (by rw [LET_len]; decide), LET_tl]
      rfl
    · rw [if_neg e1] at hk
      refine ite_f (by rw [dec_false e1]; decide) ?_
      by_cases e2 : k = "roman"
      · rw [if_pos e2] at hk
        cases hk
        refine spP_go nt ?_ h
        show (if t.length ≤ 14 then some (V.int (grL ROM 0 (tl t))) else none) = _
        rw [if_pos hl]
        rfl
      · rw [if_neg e2] at hk
        cases hk
theorem r_number_of {t k : Str} {i : Nat} {H : Hp} {Q : VK} (nt : NoT H) (hl : t.length ≤ 1000000) (hk : kidx k = some i) (h : Q (nofV (nofL i (tl t))) H) :
    rdSs ⟨N_number_of, F9, gl aK aR, bl⟩ K B_number_of { nx := fun _ H' => Q .non H', rt := Q } (L2.start N_number_of [.str t, .str k]) H := by
  refine ⟨nt, outV_go (v := .non) ?_ ?_⟩
  · show (if isKindB k = true then some V.non else none) = _
    rw [if_pos (kidx_kind hk)]
  refine ⟨sz _ hl, ?_⟩
  refine (show (if decide ((14 : Int) < (t.length : Int)) = true then Q .non H else _) from ?_)
  have hlen := len_tl t
  unfold nofL at h
  by_cases h14 : t.length ≤ 14
  · refine ite_f (by rw [dec_false (by omega)]; decide) ?_
    refine ⟨nt, outV_go (v := .int (guessL i (tl t))) ?_ ?_⟩
    · show (if t.length ≤ 14 then (kidx k).map fun i => V.int (guessL i (tl t)) else none) = _
      rw [if_pos h14, hk]
      rfl
    refine ⟨nt, outV_go (v := .bl (decide ((1 : Int) ≤ guessL i (tl t)) && decide (guessL i (tl t) ≤ 3099))) rfl ?_⟩
    refine (show (if (decide ((1 : Int) ≤ guessL i (tl t)) && decide (guessL i (tl t) ≤ 3099)) = true then spP numeralM [.int (guessL i (tl t)), .str k] H (fun x H1 => rdC K .eq x (.str t) H1 fun x H1 => rdBo x H1 fun b H1 => if b = true then Q (.int (guessL i (tl t))) H1 else Q .non H1) E0 else Q .non H) from ?_)
    by_cases hg : 1 ≤ guessL i (tl t) ∧ guessL i (tl t) ≤ 3099
    · refine ite_t (by rw [dec_true hg.1, dec_true hg.2]; rfl) (spP_go (v := .str (mk (numL i (guessL i (tl t)).toNat))) nt ?_ ?_)
      · show (if 1 ≤ guessL i (tl t) ∧ guessL i (tl t) ≤ 3099 then (kidx k).map fun j => V.str (mk (numL j (guessL i (tl t)).toNat)) else none) = _
        rw [if_pos hg, hk]
        rfl
      refine (show (if decide (mk (numL i (guessL i (tl t)).toNat) = t) = true then Q (.int (guessL i (tl t))) H else Q .non H) from ?_)
      by_cases he : numL i (guessL i (tl t)).toNat = tl t
      · refine ite_t (dec_true (ext_tl (by rw [tl_mk', he]))) ?_
        rw [if_pos ⟨by omega, hg.1, hg.2, he⟩] at h
        have : ((guessL i (tl t)).toNat : Int) = guessL i (tl t) := Int.toNat_of_nonneg (by omega)
        have h : Q (.int ((guessL i (tl t)).toNat : Int)) H := h
        rw [this] at h
        exact h
      · refine ite_f (by rw [dec_false (fun z => he (congrArg tl z))]; decide) ?_
        rw [if_neg (fun z => he z.2.2.2)] at h
        exact h
    · refine ite_f (fun z => hg ?_) ?_
      · simpa using z
      · rw [if_neg (fun z => hg ⟨z.2.1, z.2.2.1⟩)] at h
        exact h
  · refine ite_t (dec_true (by omega)) ?_
    rw [if_neg (fun z => h14 (by rw [hlen]; exact z.1))] at h
    exact h
end
end K1

end

section
set_option Elab.async false
set_option linter.all false
set_option maxRecDepth 100000
namespace K1
open PySem PySem.Spec PyProof.Rows L2 EV TL
def PR : List Int := [1000003, 1000033, 1000037, 1000039, 1000081, 1000099, 1000117, 1000121, 1000133, 1000151, 1000159, 1000171, 1000183, 1000187, 1000193, 1000199]
def DS : List Int := [1, 7, 49, 343, 2401]
def lawDraw (c k m : Int) : Int := (c * 48271 + k * 69621) % (PR.getD (k % 16).toNat 1) % m
theorem PR_at {j : Nat} (h : j < 16) : (PR.map V.int)[j]? = some (.int (PR.getD j 1)) ∧ 0 < PR.getD j 1 := by
  have : ∀ j, j < 16 → (PR.map V.int)[j]? = some (.int (PR.getD j 1)) ∧ 0 < PR.getD j 1 := by decide
  exact this j h
theorem DS_at {j : Nat} (h : j < 5) : (DS.map V.int)[j]? = some (.int (DS.getD j 1)) ∧ 0 < DS.getD j 1 ∧ DS.getD j 1 ≤ 2401 := by
  have : ∀ j, j < 5 → (DS.map V.int)[j]? = some (.int (DS.getD j 1)) ∧ 0 < DS.getD j 1 ∧ DS.getD j 1 ≤ 2401 := by decide
  exact this j h
def lawDrawM : List V → Option V
  | [.int c, .int k, .int m] => if 0 < m then some (.int (lawDraw c k m)) else none
  | _ => none
def BIG : Int := 1000811284336359577647248616306026718125307353262274591
def lawC (c : Int) : Int := if c < -1000000000000000000 then c % BIG else c
def lawNum (c k L : Int) : Int := if 1000000000000000000 ≤ c then (c - 1000000000000000000) % (DS.getD (k % 5).toNat 1 * L) / DS.getD (k % 5).toNat 1
  else lawDraw ((lawC c + 977 * k) * (lawC c + 31 * k + 5)) (k % 9 + 1) 999983 % L
theorem lawNum_b {c k L : Int} (hL : 0 < L) : 0 ≤ lawNum c k L ∧ lawNum c k L < L := by
  unfold lawNum
  split
  · obtain ⟨_, h1, _⟩ := DS_at (j := (k % 5).toNat) (by omega)
    have hp : 0 < DS.getD (k % 5).toNat 1 * L := Int.mul_pos h1 hL
    have m0 := Int.emod_nonneg (c - 1000000000000000000) (Int.ne_of_gt hp)
    have m1 := Int.emod_lt_of_pos (c - 1000000000000000000) hp
    refine ⟨Int.ediv_nonneg m0 (Int.le_of_lt h1), Int.ediv_lt_of_lt_mul h1 ?_⟩
    rw [Int.mul_comm L]
    exact m1
  · exact ⟨Int.emod_nonneg _ (Int.ne_of_gt hL), Int.emod_lt_of_pos _ hL⟩
def lawNumM : List V → Option V
  | [.int c, .int k, .int L] => if 0 ≤ k ∧ k ≤ 1000 ∧ 0 < L ∧ L ≤ 1000000 then some (.int (lawNum c k L)) else none
  | _ => none
abbrev F10 : List (Str × Sp) := [("is_kind", spP isKindM), ("check_kind", spP checkKindM), ("in_roman", spP inRomanM), ("is_number", spP isNumberM), ("in_letters", spP inLettersM), ("numeral", spP numeralM), ("guess_roman", spP guessRomanM), ("guess_places", spP guessPlacesM), ("guess", spP guessM), ("number_of", spP numberOfM)]
abbrev F11 : List (Str × Sp) := [("is_kind", spP isKindM), ("check_kind", spP checkKindM), ("in_roman", spP inRomanM), ("is_number", spP isNumberM), ("in_letters", spP inLettersM), ("numeral", spP numeralM), ("guess_roman", spP guessRomanM), ("guess_places", spP guessPlacesM), ("guess", spP guessM), ("number_of", spP numberOfM), ("_law_draw", spP lawDrawM)]
theorem same_upd {H : Hp} {p : Addr} {o : HO} (h : H p = none) : Same H (upd H p o) := fun b u e => by rw [upd_ne (ne_of_none e h)]; exact e
section
variable {fn : List (Str × Sp)} {aK aR : Addr} {K : PySem.W.Frag}
theorem r_law_draw {c k m : Int} {H : Hp} {Q : VK} (hm : 0 < m) (h : ∀ H', Same H H' → Q (.int (lawDraw c k m)) H') :
    rdSs ⟨N__law_draw, fn, gl aK aR, bl⟩ K B__law_draw { nx := fun _ H' => Q .non H', rt := Q } (L2.start N__law_draw [.int c, .int k, .int m]) H := by
  obtain ⟨h1, h2⟩ := PR_at (j := (k % 16).toNat) (by omega)
  refine ⟨by decide, fun p hp => ⟨.inr (.inr ⟨by decide, by decide⟩), .inr (.inr ⟨by decide, by decide⟩), by decide, PR.map V.int, .int (PR.getD (k % 16).toNat 1), .inr (SqT.of upd_same), at_of (j := (k % 16).toNat) (by omega) h1, h2, hm, ?_⟩⟩
  exact h _ (same_upd hp)
theorem big_nat {x : Int} (h1 : -(10 ^ 60) < x) (h2 : x < 10 ^ 60) : x.natAbs < 2 ^ 1000 := Nat.lt_of_lt_of_le (show x.natAbs < 10 ^ 60 by omega) (by decide)
theorem lawC_b {c : Int} (h : ¬ 1000000000000000000 ≤ c) : -(10 ^ 58) < lawC c ∧ lawC c < 10 ^ 58 := by
  unfold lawC BIG
  split <;> omega
theorem e18 : (10 : Int) ^ (18 : Int).toNat = 1000000000000000000 := by decide
theorem r_law_number {c k L : Int} {H : Hp} {Q : VK} (nt : NoT H) (k0 : 0 ≤ k) (k1 : k ≤ 1000) (hL : 0 < L) (hL2 : L ≤ 1000000) (h : ∀ H', Same H H' → Q (.int (lawNum c k L)) H') :
    rdSs ⟨N__law_number, F11, gl aK aR, bl⟩ K B__law_number { nx := fun _ H' => Q .non H', rt := Q } (L2.start N__law_number [.int c, .int k, .int L]) H := by
  have cp : CPow 10 18 := ⟨by decide, by decide, by decide⟩
  refine ⟨cp, ?_⟩
  refine (show (if decide ((10 : Int) ^ (18 : Int).toNat ≤ c) = true then _ else _) from ?_)
  by_cases hc : 1000000000000000000 ≤ c
  · refine ite_t (dec_true (by rw [e18]; exact hc)) ?_
    obtain ⟨h1, h2, h3⟩ := DS_at (j := (k % 5).toNat) (by omega)
    refine ⟨by decide, fun p hp => ⟨by decide, DS.map V.int, .int (DS.getD (k % 5).toNat 1), .inr (SqT.of upd_same), at_of (j := (k % 5).toNat) (by omega) h1, cp, .inr (.inl ⟨by omega, by omega⟩), Int.mul_pos h2 hL, ⟨h2, by omega⟩, ?_⟩⟩
    have := h _ (same_upd (o := .tup (DS.map V.int)) hp)
    unfold lawNum at this
    rw [if_pos hc] at this
    exact this
  · refine ite_f (by rw [dec_false (by rw [e18]; exact hc)]; decide) ?_
    refine ⟨cp, ?_⟩
    have hb := lawC_b hc
    have go : ∀ v : Option V, rdSs ⟨N__law_number, F11, gl aK aR, bl⟩ K (.cons (.ret (.bin .mod (.call 10 (.cons (.bin .mul (.bin .add (.var 0) (.bin .mul (.cst (.int 977)) (.var 1))) (.bin .add (.bin .add (.var 0) (.bin .mul (.cst (.int 31)) (.var 1))) (.cst (.int 5)))) (.cons (.bin .add (.bin .mod (.var 1) (.cst (.int 9))) (.cst (.int 1))) (.cons (.cst (.int 999983)) .nil)))) (.var 2))) .nil)
        { nx := fun _ H' => Q .non H', rt := Q } [some (.int (lawC c)), some (.int k), some (.int L), v] H := fun v => by
      refine ⟨.inr (.inl ⟨by decide, by decide⟩), .inr (.inl ⟨by decide, by decide⟩), .inl ⟨big_nat (by omega) (by omega), big_nat (by omega) (by omega)⟩, by decide, nt, outV_go (v := .int (lawDraw ((lawC c + 977 * k) * (lawC c + 31 * k + 5)) (k % 9 + 1) 999983)) rfl ⟨hL, ?_⟩⟩
      have := h _ (Same.refl H)
      unfold lawNum at this
      rw [if_neg hc] at this
      exact this
    refine (show (if decide (c < -(10 : Int) ^ (18 : Int).toNat) = true then _ else _) from ?_)
    by_cases hn : c < -1000000000000000000
    · refine ite_t (dec_true (by rw [e18]; exact hn)) ⟨by decide, ?_⟩
      have g := go none
      unfold lawC at g
      rw [if_pos hn] at g
      exact g
    · refine ite_f (by rw [dec_false (by rw [e18]; exact hn)]; decide) ?_
      have g := go none
      unfold lawC at g
      rw [if_neg hn] at g
      exact g
end
end K1

end

section
set_option Elab.async false
set_option linter.all false
set_option maxRecDepth 100000
namespace K1
open PySem PySem.Spec PyProof.Rows L2 EV TL
def lawPowM : List V → Option V
  | [.int m] => if 0 ≤ m ∧ m ≤ 100 then some (.int (26 ^ m.toNat)) else none
  | _ => none
abbrev F13 : List (Str × Sp) := [("is_kind", spP isKindM), ("check_kind", spP checkKindM), ("in_roman", spP inRomanM), ("is_number", spP isNumberM), ("in_letters", spP inLettersM), ("numeral", spP numeralM), ("guess_roman", spP guessRomanM), ("guess_places", spP guessPlacesM), ("guess", spP guessM), ("number_of", spP numberOfM), ("_law_draw", spP lawDrawM), ("_law_number", spP lawNumM), ("_law_pow", spP lawPowM)]
def lawNumeralM : List V → Option V
  | [.int n, .str k] => if 1 ≤ n ∧ n ≤ 3099 then (kidx k).map fun i => .str (mk (lnumL i n.toNat)) else none
  | _ => none
section
variable {fn : List (Str × Sp)} {aK aR : Addr} {K : PySem.W.Frag}
/-! ### _law_pow -/
def bPow : Sxs := (.cons (.asg (.nm 1) (.bin .mul (.var 1) (.cst (.int 26)))) .nil)
theorem pow_loop {m : V} : ∀ (xs : List V) (z : Int) (D : Ends) (u : Option V) (H : Hp), (∀ u, D.nx [some m, some (.int (z * 26 ^ xs.length)), u] H) →
    forL (fun _ => True) (rdG K (.nm 2)) (rdSs ⟨N__law_pow, fn, gl aK aR, bl⟩ K bPow) xs D [some m, some (.int z), u] H
  | [], z, D, u, H, h => ⟨True.intro, by have := h u; rw [List.length_nil, Int.pow_zero, Int.mul_one] at this; exact this⟩
  | x :: r, z, D, u, H, h => by
    refine ⟨True.intro, .inr (.inr ⟨by decide, by decide⟩), ?_⟩
    refine pow_loop r (z * 26) D (some x) H fun u => ?_
    have := h u
    have e : z * 26 ^ (x :: r).length = z * 26 * 26 ^ r.length := by
      rw [List.length_cons, Int.pow_succ, Int.mul_assoc, Int.mul_comm (26 ^ r.length : Int) 26, ← Int.mul_assoc]
    rw [e] at this
    exact this
theorem r_law_pow {m : Int} {H : Hp} {Q : VK} (h0 : 0 ≤ m) (h1 : m ≤ 100) (h : Q (.int (26 ^ m.toNat)) H) :
    rdSs ⟨N__law_pow, fn, gl aK aR, bl⟩ K B__law_pow { nx := fun _ H' => Q .non H', rt := Q } (L2.start N__law_pow [.int m]) H := by
  refine ⟨⟨by omega, by omega⟩, ?_⟩
  refine pow_loop (rngV 0 m.toNat) 1 _ none H fun u => ?_
  show Q (.int (1 * 26 ^ (rngV 0 m.toNat).length)) H
  rw [rngV_len, Int.one_mul]
  exact h
/-! ### _law_whole -/
def lawWholeM : List V → Option V
  | [.int _] => some (.bl true)
  | [.non] => some (.bl false)
  | _ => none
theorem r_law_whole_i {n : Int} {H : Hp} {Q : VK} (h : Q (.bl true) H) : rdSs ⟨N__law_whole, fn, gl aK aR, bl⟩ K B__law_whole { nx := fun _ H' => Q .non H', rt := Q } (L2.start N__law_whole [.int n]) H := h
theorem r_law_whole_n {H : Hp} {Q : VK} (h : Q (.bl false) H) : rdSs ⟨N__law_whole, fn, gl aK aR, bl⟩ K B__law_whole { nx := fun _ H' => Q .non H', rt := Q } (L2.start N__law_whole [.non]) H := h
/-! ### _law_numeral -/
theorem whl_go' {c : TT} {tb : TS} {n : Nat} {D : Ends} {σ : L2.St} {H : Hp} {b : Bool} (e : ∀ Q : Bool → Hp → Prop, Q b H → c σ H Q) (h : if b = true then tb (again D (whlN c tb n D)) σ H else D.nx σ H) : whlN c tb (n + 1) D σ H := e _ h
def cLn : Ex := (.cmp .ge (.var 3) (.bin .mul (.cst (.int 26)) (.call 12 (.cons (.bin .sub (.var 2) (.cst (.int 1))) .nil))))
def wLn : Sxs := (.cons (.par2 3 2 (.bin .sub (.var 3) (.bin .mul (.cst (.int 26)) (.call 12 (.cons (.bin .sub (.var 2) (.cst (.int 1))) .nil)))) (.bin .add (.var 2) (.cst (.int 1))))
  .nil)
abbrev Gln (aK aR : Addr) : Gm := ⟨N__law_numeral, F13, gl aK aR, bl⟩
/-- one look at the while's test: many letters, what is left -/
theorem ln_test {n0 kd : V} {m : Nat} {l : Int} {fd : V} {us : L2.St} {H : Hp} (nt : NoT H) (hm : 1 ≤ m) (hm2 : m ≤ 50) (Q : Bool → Hp → Prop) (h : Q (decide (26 * 26 ^ (m - 1) ≤ l)) H) :
    rdT (Gln aK aR) K cLn (some n0 :: some kd :: some (.int m) :: some (.int l) :: some fd :: us) H Q := by
  have e : lawPowM [.int ((m : Int) - 1)] = some (.int (26 ^ (m - 1))) := by
    show (if 0 ≤ (m : Int) - 1 ∧ (m : Int) - 1 ≤ 100 then some (V.int (26 ^ ((m : Int) - 1).toNat)) else none) = _
    rw [if_pos ⟨by omega, by omega⟩, show ((m : Int) - 1).toNat = m - 1 by omega]
  exact ⟨nt, outV_go e ⟨.inr (.inl ⟨by decide, by decide⟩), h⟩⟩
theorem ln_turn {n0 kd : V} {m : Nat} {l : Int} {fd : V} {us : L2.St} {D : Ends} {H : Hp} (nt : NoT H) (hm : 1 ≤ m) (hm2 : m ≤ 50) (h : D.nx (some n0 :: some kd :: some (.int ((m + 1 : Nat) : Int)) :: some (.int (l - 26 * 26 ^ (m - 1))) :: some fd :: us) H) :
    rdSs (Gln aK aR) K wLn D (some n0 :: some kd :: some (.int m) :: some (.int l) :: some fd :: us) H := by
  have e : lawPowM [.int ((m : Int) - 1)] = some (.int (26 ^ (m - 1))) := by
    show (if 0 ≤ (m : Int) - 1 ∧ (m : Int) - 1 ≤ 100 then some (V.int (26 ^ ((m : Int) - 1).toNat)) else none) = _
    rw [if_pos ⟨by omega, by omega⟩, show ((m : Int) - 1).toNat = m - 1 by omega]
  exact ⟨nt, outV_go e ⟨.inr (.inl ⟨by decide, by decide⟩), h⟩⟩
def bLn : Sxs := (.cons (.par2 4 3 (.bin .add (.idx (.cst (.str "abcdefghijklmnopqrstuvwxyz")) (.bin .mod (.var 3) (.cst (.int 26)))) (.var 4)) (.bin .fdiv (.var 3) (.cst (.int 26))))
  .nil)
theorem LET_lit : ("abcdefghijklmnopqrstuvwxyz" : Str) = LET := rfl
theorem ln_loop {n0 kd m : V} {us : L2.St} : ∀ (xs : List V) (l : Nat) (acc : List Nat) (D : Ends) (u : Option V) (H : Hp), acc.length + xs.length ≤ 100 →
    (∀ (l' : Int) (u : Option V), D.nx (some n0 :: some kd :: some m :: some (.int l') :: some (.str (mk (lnL xs.length l acc))) :: u :: us) H) →
    forL (fun _ => True) (rdG K (.nm 5)) (rdSs (Gln aK aR) K bLn) xs D (some n0 :: some kd :: some m :: some (.int l) :: some (.str (mk acc)) :: u :: us) H
  | [], l, acc, D, u, H, _, h => ⟨True.intro, h l u⟩
  | x :: r, l, acc, D, u, H, hl, h => by
    rw [List.length_cons] at hl
    have hm : l % 26 < 26 := Nat.mod_lt _ (by decide)
    have hc : LETc[l % 26]? = some (97 + l % 26) := by
      have : ∀ i, i < 26 → LETc[i]? = some (97 + i) := by decide
      exact this _ hm
    refine ⟨True.intro, by decide, ?_, 97 + l % 26, ?_, ?_, ⟨by decide, by decide⟩, ?_⟩
    · rw [LET_lit, LET_len]; decide
    · show atI (tl LET) ((l : Int) % 26) = _
      rw [LET_tl]
      rw [show (l : Int) % 26 = ((l % 26 : Nat) : Int) by omega]
      exact atI_nat hc
    · show 1 + (mk acc).length ≤ sizeLine
      rw [mk_len]
      exact sz _ (by omega)
    · have ih := ln_loop r (l / 26) ((97 + l % 26) :: acc) D (some x) H (by rw [List.length_cons]; omega) (fun l' u => h l' u)
      have e : (l : Int) / 26 = ((l / 26 : Nat) : Int) := by omega
      have ih' : forL (fun _ => True) (rdG K (.nm 5)) (rdSs (Gln aK aR) K bLn) r D (some n0 :: some kd :: some m :: some (.int ((l : Int) / 26)) :: some (.str (mk [97 + l % 26] ++ mk acc)) :: some x :: us) H := by
        rw [e, mk_app]
        exact ih
      exact ih'
/-! the Roman part -/
def bSg : Sxs := (.cons (.asg (.nm 4) (.bin .add (.var 4) (.ite (.cmp .eq (.var 11) (.cst (.str "1"))) (.var 8) (.ite (.cmp .eq (.var 11) (.cst (.str "5"))) (.var 9) (.var 10)))))
  .nil)
theorem one_lit : ("1" : Str) = mk [49] := by decide +kernel
theorem five_lit : ("5" : Str) = mk [53] := by decide +kernel
theorem sg_dec (c d : Nat) : decide ((⟨#[c]⟩ : Str) = mk [d]) = decide (c = d) := by
  rw [Bool.eq_iff_iff, decide_eq_true_eq, decide_eq_true_eq]
  constructor
  · intro h
    have := congrArg tl h
    have e : [c] = [d] := this
    injection e
  · intro h
    rw [h]
    rfl
theorem sg_loop {v0 v1 : V} {u2 u3 u5 : Option V} {v6 v7 : V} {a b c : List Nat} (ha : a.length ≤ 2) (hb : b.length ≤ 2) (hc : c.length ≤ 2) : ∀ (l : List Nat) (acc : List Nat) (D : Ends) (u : Option V) (H : Hp), acc.length + 2 * l.length ≤ 100 →
    (∀ u, D.nx [some v0, some v1, u2, u3, some (.str (mk (lsg a b c l acc))), u5, some v6, some v7, some (.str (mk a)), some (.str (mk b)), some (.str (mk c)), u] H) →
    forL (fun _ => True) (rdG K (.nm 11)) (rdSs (Gln aK aR) K bSg) (l.map fun c => V.str ⟨#[c]⟩) D [some v0, some v1, u2, u3, some (.str (mk acc)), u5, some v6, some v7, some (.str (mk a)), some (.str (mk b)), some (.str (mk c)), u] H
  | [], acc, D, u, H, _, h => ⟨True.intro, h u⟩
  | x :: r, acc, D, u, H, hl, h => by
    rw [List.length_cons] at hl
    refine ⟨True.intro, ?_⟩
    have ih := fun (t : List Nat) (ht : t.length ≤ 2) (e : lsg a b c (x :: r) acc = lsg a b c r (acc ++ t)) => sg_loop ha hb hc r (acc ++ t) D (some (.str ⟨#[x]⟩)) H (by rw [List.length_append]; omega) (fun u => by have := h u; rw [e] at this; exact this)
    refine (show (if decide ((⟨#[x]⟩ : Str) = "1") = true then ((mk acc).length + (mk a).length ≤ sizeLine ∧ forL (fun _ => True) (rdG K (.nm 11)) (rdSs (Gln aK aR) K bSg) (r.map fun c => V.str ⟨#[c]⟩) D [some v0, some v1, u2, u3, some (.str (mk acc ++ mk a)), u5, some v6, some v7, some (.str (mk a)), some (.str (mk b)), some (.str (mk c)), some (.str ⟨#[x]⟩)] H)
      else (if decide ((⟨#[x]⟩ : Str) = "5") = true then ((mk acc).length + (mk b).length ≤ sizeLine ∧ forL (fun _ => True) (rdG K (.nm 11)) (rdSs (Gln aK aR) K bSg) (r.map fun c => V.str ⟨#[c]⟩) D [some v0, some v1, u2, u3, some (.str (mk acc ++ mk b)), u5, some v6, some v7, some (.str (mk a)), some (.str (mk b)), some (.str (mk c)), some (.str ⟨#[x]⟩)] H)
      else ((mk acc).length + (mk c).length ≤ sizeLine ∧ forL (fun _ => True) (rdG K (.nm 11)) (rdSs (Gln aK aR) K bSg) (r.map fun c => V.str ⟨#[c]⟩) D [some v0, some v1, u2, u3, some (.str (mk acc ++ mk c)), u5, some v6, some v7, some (.str (mk a)), some (.str (mk b)), some (.str (mk c)), some (.str ⟨#[x]⟩)] H))) from ?_)
    rw [one_lit, five_lit, sg_dec, sg_dec, mk_app, mk_app, mk_app, mk_len, mk_len, mk_len, mk_len]
    by_cases h1 : x = 49
    · exact ite_t (dec_true h1) ⟨sz _ (by omega), ih a ha (by show lsg a b c r (acc ++ if x = 49 then a else if x = 53 then b else c) = _; rw [if_pos h1])⟩
    · refine ite_f (by rw [dec_false h1]; decide) ?_
      by_cases h2 : x = 53
      · exact ite_t (dec_true h2) ⟨sz _ (by omega), ih b hb (by show lsg a b c r (acc ++ if x = 49 then a else if x = 53 then b else c) = _; rw [if_neg h1, if_pos h2])⟩
      · exact ite_f (by rw [dec_false h2]; decide) ⟨sz _ (by omega), ih c hc (by show lsg a b c r (acc ++ if x = 49 then a else if x = 53 then b else c) = _; rw [if_neg h1, if_neg h2])⟩
def bRow : Sxs := (.cons (.for_ (.nm 11) .str (.cons (.idx (.var 6) (.bin .mod (.bin .fdiv (.var 0) (.var 7)) (.cst (.int 10)))) .nil) bSg) .nil)
def FIGv : List V := FIGS.map fun l => V.str (mk l)
theorem FIG_at {j : Nat} (h : j < 10) : FIGv[j]? = some (.str (mk (FIGS.getD j []))) ∧ (FIGS.getD j []).length ≤ 4 := by
  have : ∀ j, j < 10 → FIGv[j]? = some (.str (mk (FIGS.getD j []))) ∧ (FIGS.getD j []).length ≤ 4 := by
    intro j hj
    match j, hj with
    | 0, _ => exact ⟨rfl, by decide⟩
    | 1, _ => exact ⟨rfl, by decide⟩
    | 2, _ => exact ⟨rfl, by decide⟩
    | 3, _ => exact ⟨rfl, by decide⟩
    | 4, _ => exact ⟨rfl, by decide⟩
    | 5, _ => exact ⟨rfl, by decide⟩
    | 6, _ => exact ⟨rfl, by decide⟩
    | 7, _ => exact ⟨rfl, by decide⟩
    | 8, _ => exact ⟨rfl, by decide⟩
    | 9, _ => exact ⟨rfl, by decide⟩
    | j + 10, h => omega
  exact this j h
theorem lsg_len (a b c : List Nat) (ha : a.length ≤ 2) (hb : b.length ≤ 2) (hc : c.length ≤ 2) : ∀ (l acc : List Nat), (lsg a b c l acc).length ≤ acc.length + 2 * l.length
  | [], acc => by show acc.length ≤ _; omega
  | x :: r, acc => by
    have ih := lsg_len a b c ha hb hc r (acc ++ if x = 49 then a else if x = 53 then b else c)
    show (lsg a b c r (acc ++ if x = 49 then a else if x = 53 then b else c)).length ≤ _
    have e : (acc ++ if x = 49 then a else if x = 53 then b else c).length ≤ acc.length + 2 := by
      rw [List.length_append]
      split
      · omega
      · split <;> omega
    rw [List.length_cons]
    omega
theorem row_loop (chk : Hp → Prop) {n : Nat} {v1 : V} {u2 u3 u5 : Option V} {p : Addr} {H : Hp} (hc : chk H) (hp : SqT K H p FIGv) : ∀ (rows : List (Addr × Nat × List Nat × List Nat × List Nat)) (acc : List Nat) (D : Ends) (u7 u8 u9 u10 u11 : Option V),
    (∀ q ∈ rows, SqT K H q.1 [.int (q.2.1 : Nat), .str (mk q.2.2.1), .str (mk q.2.2.2.1), .str (mk q.2.2.2.2)] ∧ 0 < q.2.1 ∧ q.2.1 ≤ 1000 ∧ q.2.2.1.length ≤ 2 ∧ q.2.2.2.1.length ≤ 2 ∧ q.2.2.2.2.length ≤ 2) → acc.length + 8 * rows.length ≤ 90 →
    (∀ u7 u8 u9 u10 u11, D.nx [some (.int n), some v1, u2, u3, some (.str (mk (lromL (rows.map (·.2)) n acc))), u5, some (.ref p), u7, u8, u9, u10, u11] H) →
    forL chk (rdG K (.tup [7, 8, 9, 10])) (rdSs (Gln aK aR) K bRow) (rows.map fun q => V.ref q.1) D [some (.int n), some v1, u2, u3, some (.str (mk acc)), u5, some (.ref p), u7, u8, u9, u10, u11] H
  | [], acc, D, u7, u8, u9, u10, u11, _, _, h => ⟨hc, h u7 u8 u9 u10 u11⟩
  | (q, w, a, b, c) :: rows, acc, D, u7, u8, u9, u10, u11, ht, hl, h => by
    rw [List.length_cons] at hl
    obtain ⟨t1, t2, t3, t4, t5, t6⟩ : SqT K H q [.int (w : Nat), .str (mk a), .str (mk b), .str (mk c)] ∧ 0 < w ∧ w ≤ 1000 ∧ a.length ≤ 2 ∧ b.length ≤ 2 ∧ c.length ≤ 2 := ht (q, w, a, b, c) List.mem_cons_self
    obtain ⟨f1, f2⟩ := FIG_at (j := n / w % 10) (Nat.mod_lt _ (by decide))
    have e : ((n : Int) / (w : Int)) % 10 = ((n / w % 10 : Nat) : Int) := by
      rw [Int.natCast_emod, Int.natCast_ediv]
      rfl
    refine ⟨hc, _, t1, ⟨by omega, by omega⟩, by decide, FIGv, _, .inr hp, at_of e f1, ?_⟩
    have hlen := lsg_len a b c t4 t5 t6 (FIGS.getD (n / w % 10) []) acc
    refine sg_loop (aK := aK) (aR := aR) (K := K) t4 t5 t6 (FIGS.getD (n / w % 10) []) acc _ u11 H (by omega) fun u => ?_
    exact row_loop chk hc hp rows _ D _ _ _ _ _ (fun q hq => ht q (List.mem_cons_of_mem _ hq)) (by omega) (fun u7 u8 u9 u10 u11 => h u7 u8 u9 u10 u11)
theorem ln_while {n0 kd fd : V} {us : L2.St} {D : Ends} {H : Hp} {n : Nat} {l : Int} (hl : l = (n : Int)) (hn : n ≤ 3098) (nt : NoT H)
    (h : D.nx (some n0 :: some kd :: some (.int ((lmany n).1 : Nat)) :: some (.int ((lmany n).2 : Nat)) :: some fd :: us) H) :
    ∃ m, whlN (rdT (Gln aK aR) K cLn) (rdSs (Gln aK aR) K wLn) m D (some n0 :: some kd :: some (.int ((1 : Nat) : Int)) :: some (.int l) :: some fd :: us) H := by
  subst hl
  have p0 : (26 : Int) * 26 ^ (1 - 1) = 26 := by decide
  have p1 : (26 : Int) * 26 ^ (2 - 1) = 676 := by decide
  have p2 : (26 : Int) * 26 ^ (3 - 1) = 17576 := by decide
  unfold lmany at h
  refine ⟨3, whl_go' (fun Q q => ln_test nt (by decide) (by decide) Q q) ?_⟩
  rw [p0]
  by_cases h1 : n < 26
  · rw [if_pos h1] at h
    exact ite_f (by rw [dec_false (by omega)]; decide) h
  · rw [if_neg h1] at h
    refine ite_t (dec_true (by omega)) (ln_turn nt (by decide) (by decide) ?_)
    rw [p0]
    refine whl_go' (fun Q q => ln_test (m := 2) nt (by decide) (by decide) Q q) ?_
    rw [p1]
    by_cases h2 : n - 26 < 676
    · rw [if_pos h2] at h
      refine ite_f (by rw [dec_false (by omega)]; decide) ?_
      rw [show (n : Int) - 26 = ((n - 26 : Nat) : Int) by omega]
      exact h
    · rw [if_neg h2] at h
      refine ite_t (dec_true (by omega)) (ln_turn (m := 2) nt (by decide) (by decide) ?_)
      rw [p1]
      refine whl_go' (fun Q q => ln_test (m := 3) nt (by decide) (by decide) Q q) ?_
      rw [p2]
      refine ite_f (by rw [dec_false (by omega)]; decide) ?_
      rw [show (n : Int) - 26 - 676 = ((n - 702 : Nat) : Int) by omega]
      exact h
theorem lits : ("m" : Str) = mk [109] ∧ ("c" : Str) = mk [99] ∧ ("d" : Str) = mk [100] ∧ ("x" : Str) = mk [120] ∧ ("l" : Str) = mk [108] ∧ ("i" : Str) = mk [105] ∧ ("v" : Str) = mk [118] ∧ ("" : Str) = mk [] := by decide +kernel
theorem figs_lit : ([V.str "", V.str "1", V.str "11", V.str "111", V.str "15", V.str "5", V.str "51", V.str "511", V.str "5111", V.str "1t"] : List V) = FIGv := by decide +kernel
theorem lmany_b {n : Nat} (h : n ≤ 3098) : 1 ≤ (lmany n).1 ∧ (lmany n).1 ≤ 3 := by
  unfold lmany
  split
  · show 1 ≤ 1 ∧ 1 ≤ 3; decide
  · split
    · show 1 ≤ 2 ∧ 2 ≤ 3; decide
    · show 1 ≤ 3 ∧ 3 ≤ 3; decide
theorem r_law_numeral {n : Nat} {k : Str} {i : Nat} {H : Hp} {Q : VK} (nt : NoT H) (h1 : 1 ≤ n) (h2 : n ≤ 3099) (hk : kidx k = some i) (h : ∀ H', Same H H' → Q (.str (mk (lnumL i n))) H') :
    rdSs ⟨N__law_numeral, F13, gl aK aR, bl⟩ K B__law_numeral { nx := fun _ H' => Q .non H', rt := Q } (L2.start N__law_numeral [.int n, .str k]) H := by
  unfold kidx at hk
  refine (show (if decide (k = "figures") = true then ((n : Int).natAbs.log2 < 1920 ∧ Q (.str (Str.ofString (toString (n : Int)))) H) else _) from ?_)
  by_cases e0 : k = "figures"
  · rw [if_pos e0] at hk
    cases hk
    refine ite_t (dec_true e0) ⟨log_small h2, ?_⟩
    rw [fig_str]
    exact h H (Same.refl H)
  · rw [if_neg e0] at hk
    refine ite_f (by rw [dec_false e0]; decide) ?_
    refine (show (if decide (k = "letters") = true then _ else _) from ?_)
    by_cases e1 : k = "letters"
    · rw [if_pos e1] at hk
      cases hk
      refine ite_t (dec_true e1) ?_
      have hb := lmany_b (n := n - 1) (by omega)
      refine ln_while (n := n - 1) (fd := .str (mk [])) (by omega) (by omega) nt ?_
      refine ⟨⟨by omega, by omega⟩, ?_⟩
      refine ln_loop (rngV 0 (((lmany (n - 1)).1 : Nat) : Int).toNat) (lmany (n - 1)).2 [] _ none H (by rw [rngV_len, List.length_nil]; omega) fun l' u => ?_
      rw [rngV_len, Int.toNat_natCast]
      exact h H (Same.refl H)
    · rw [if_neg e1] at hk
      refine ite_f (by rw [dec_false e1]; decide) ?_
      by_cases e2 : k = "roman"
      · rw [if_pos e2] at hk
        cases hk
        obtain ⟨lm, lc, ld, lx, ll, li, lv, l0⟩ := lits
        refine ⟨by decide, fun p hp => ⟨by show 2 ≤ sizeLine; decide, fun q hq => ⟨_, SqT.of upd_same, ?_⟩⟩⟩
        refine ⟨by decide, fun r1 hr1 => ⟨by decide, fun r2 hr2 => ⟨by decide, fun r3 hr3 => ⟨by decide, fun r4 hr4 => ⟨by show 4 ≤ sizeLine; decide, fun l hl => ?_⟩⟩⟩⟩⟩
        refine ⟨[.ref r1, .ref r2, .ref r3, .ref r4], ?_⟩
        have s1 := same_upd (o := .tup [V.str "", V.str "1", V.str "11", V.str "111", V.str "15", V.str "5", V.str "51", V.str "511", V.str "5111", V.str "1t"]) hp
        have s2 := same_upd (o := .tup [V.str "", V.ref p]) hq
        have s3 := same_upd (o := .tup [V.int 1000, V.str "m", V.str "", V.str ""]) hr1
        have s4 := same_upd (o := .tup [V.int 100, V.str "c", V.str "d", V.str "m"]) hr2
        have s5 := same_upd (o := .tup [V.int 10, V.str "x", V.str "l", V.str "c"]) hr3
        have s6 := same_upd (o := .tup [V.int 1, V.str "i", V.str "v", V.str "x"]) hr4
        have s7 := same_upd (o := .lst [V.ref r1, V.ref r2, V.ref r3, V.ref r4]) hl
        have fp := s7 _ _ (s6 _ _ (s5 _ _ (s4 _ _ (s3 _ _ (s2 _ _ (upd_same (H := H) (a := p) (o := .tup [V.str "", V.str "1", V.str "11", V.str "111", V.str "15", V.str "5", V.str "51", V.str "511", V.str "5111", V.str "1t"])))))))
        have f1 := s7 _ _ (s6 _ _ (s5 _ _ (s4 _ _ (upd_same (a := r1) (o := .tup [V.int 1000, V.str "m", V.str "", V.str ""])))))
        have f2 := s7 _ _ (s6 _ _ (s5 _ _ (upd_same (a := r2) (o := .tup [V.int 100, V.str "c", V.str "d", V.str "m"]))))
        have f3 := s7 _ _ (s6 _ _ (upd_same (a := r3) (o := .tup [V.int 10, V.str "x", V.str "l", V.str "c"])))
        have f4 := s7 _ _ (upd_same (a := r4) (o := .tup [V.int 1, V.str "i", V.str "v", V.str "x"]))
        have hS := (((((s1.trans s2).trans s3).trans s4).trans s5).trans s6).trans s7
        have hQ := h _ hS
        rw [figs_lit] at fp
        refine row_loop (aK := aK) (aR := aR) (K := K) (fun H => SqL K H l [.ref r1, .ref r2, .ref r3, .ref r4]) (n := n) (v1 := .str k) (SqL.of upd_same) (SqT.of fp)
          [(r1, 1000, [109], [], []), (r2, 100, [99], [100], [109]), (r3, 10, [120], [108], [99]), (r4, 1, [105], [118], [120])] [] _ none none none none none ?_ (by show 0 + 8 * 4 ≤ 90; decide) (fun _ _ _ _ _ => hQ)
        have rb : ∀ q : Nat × List Nat × List Nat × List Nat, q ∈ LROM → 0 < q.1 ∧ q.1 ≤ 1000 ∧ q.2.1.length ≤ 2 ∧ q.2.2.1.length ≤ 2 ∧ q.2.2.2.length ≤ 2 := by decide
        intro q hq
        simp only [List.mem_cons, List.not_mem_nil, or_false] at hq
        rcases hq with rfl | rfl | rfl | rfl
        · exact ⟨SqT.of (by rw [lm, l0] at f1; exact f1), rb (1000, [109], [], []) (by decide)⟩
        · exact ⟨SqT.of (by rw [lm, lc, ld] at f2; exact f2), rb (100, [99], [100], [109]) (by decide)⟩
        · exact ⟨SqT.of (by rw [lx, ll, lc] at f3; exact f3), rb (10, [120], [108], [99]) (by decide)⟩
        · exact ⟨SqT.of (by rw [li, lv, lx] at f4; exact f4), rb (1, [105], [118], [120]) (by decide)⟩
      · rw [if_neg e2] at hk
        cases hk
end
end K1

end

section
set_option maxRecDepth 100000
namespace K1
open PySem EV
theorem fig_pos {c : Nat} (h : c ∈ FIGc) : posL FIGc c 0 = ((c - 48 : Nat) : Int) ∧ 48 ≤ c ∧ c ≤ 57 := by
  have : ∀ c ∈ FIGc, posL FIGc c 0 = ((c - 48 : Nat) : Int) ∧ 48 ≤ c ∧ c ≤ 57 := by decide +kernel
  exact this c h
theorem fig_fold : ∀ (l : List Nat) (n : Nat), (l.all fun c => decide (c ∈ FIGc)) = true → plcL FIGc 0 l (n : Int) = ((l.foldl (fun acc c => acc * 10 + (c - 48)) n : Nat) : Int)
  | [], n, _ => rfl
  | c :: r, n, h => by
    rw [List.all_cons, Bool.and_eq_true, decide_eq_true_eq] at h
    have := fig_fold r (n * 10 + (c - 48)) h.2
    rw [List.foldl_cons, ← this]
    show plcL FIGc 0 r ((n : Int) * (FIGc.length : Nat) + posL FIGc c 0 + 0) = _
    rw [(fig_pos h.1).1]
    congr 1
theorem int_fig {l : List Nat} (h0 : l ≠ []) (h4 : l.length ≤ 4) (h : (l.all fun c => decide (c ∈ FIGc)) = true) : PySem.intText? (mk l) = some (plcL FIGc 0 l 0) := by
  have e : (mk l).cps.toList = l := rfl
  have := PySem.intText_digits (x := mk l) (by
    rw [e]
    intro c hc
    exact (fig_pos (of_decide_eq_true (List.all_eq_true.mp h c hc))).2) (by rw [e]; exact h0) (by
    show l.toArray.size ≤ 4300
    rw [List.size_toArray]; omega)
  rw [this, e]
  exact congrArg some (fig_fold l 0 h).symm
end K1

end

section
set_option Elab.async false
set_option linter.all false
set_option maxRecDepth 100000
namespace K1
open PySem PySem.Spec PyProof.Rows L2 EV TL
abbrev F15 : List (Str × Sp) := [("is_kind", spP isKindM), ("check_kind", spP checkKindM), ("in_roman", spP inRomanM), ("is_number", spP isNumberM), ("in_letters", spP inLettersM), ("numeral", spP numeralM), ("guess_roman", spP guessRomanM), ("guess_places", spP guessPlacesM), ("guess", spP guessM), ("number_of", spP numberOfM), ("_law_draw", spP lawDrawM), ("_law_number", spP lawNumM), ("_law_pow", spP lawPowM), ("_law_numeral", spP lawNumeralM), ("_law_whole", spP lawWholeM)]
def lawValueM : List V → Option V
  | [.str t, .str k] => if t.length ≤ 1000000 then (kidx k).map fun i => nofV (valL i (tl t)) else none
  | _ => none
/-- a comprehension whose element changes nothing -/
theorem lc_pure {chk : Hp → Prop} {te : TE} {σ : L2.St} {i : Nat} {D : Addr} {H0 : Hp} (f : V → V) {Qd : Hp → Prop} (hk : ∀ o, chk (upd H0 D o)) : ∀ (xs acc : List V), (∀ x ∈ xs, ∀ acc Q, Q (f x) (upd H0 D (.lst acc)) → te (σ.set i (some x)) (upd H0 D (.lst acc)) Q) →
    acc.length + xs.length ≤ 1000000 → Qd (upd H0 D (.lst (acc ++ xs.map f))) → lcL chk te σ i D xs acc (upd H0 D (.lst acc)) Qd
  | [], acc, _, _, h => ⟨hk _, upd_same, by rw [List.map_nil, List.append_nil] at h; exact h⟩
  | x :: r, acc, he, hl, h => by
    rw [List.length_cons] at hl
    refine ⟨hk _, he x List.mem_cons_self acc _ ⟨upd_same, Nat.lt_of_lt_of_le (show acc.length < 1000001 by omega) (by decide), ?_⟩⟩
    rw [EV.upd_upd]
    refine lc_pure f hk r (acc ++ [f x]) (fun y hy => he y (List.mem_cons_of_mem _ hy)) (by rw [List.length_append, List.length_singleton]; omega) ?_
    rw [List.append_assoc]
    exact h
section
variable {aK aR : Addr} {K : PySem.W.Frag}
abbrev Gv (aK aR : Addr) : Gm := ⟨N__law_value, F15, gl aK aR, bl⟩
/-- all signs of the text are among S -/
theorem all_in {S : Str} {t : Str} {v1 : V} {u2 u3 u4 u5 u6 : Option V} {H : Hp} {Q : Bool → Hp → Prop} (hl : t.length ≤ 1000000)
    (h : ∀ H', Same H H' → (NoT H → NoT H') → Q (!((tl t).all fun c => decide (c ∈ tl S))) H') :
    rdT (Gv aK aR) K (.not (.blt .all (.cons (.lc 3 .str (.var 0) (.cmp .isin (.var 3) (.cst (.str S)))) .nil))) [some (.str t), some v1, u2, u3, u4, u5, u6] H Q := by
  refine fun D hD => lc_pure (chk := fun _ => True) (σ := [some (.str t), some v1, u2, none, u4, u5, u6]) (fun x => match x with | .str z => (match tl z with | [c] => .bl (decide (c ∈ tl S)) | _ => .non) | _ => .non) (fun _ => True.intro) (signsV t) [] ?_ ?_ ?_
  · intro x hx acc Q' q
    obtain ⟨c, _, rfl⟩ := List.mem_map.mp hx
    exact q
  · rw [List.length_nil, signsV, List.length_map, ← len_tl]
    omega
  · refine ⟨D, (tl t).map (fun c => decide (c ∈ tl S)), rfl, SqL.of ?_, ?_⟩
    · rw [upd_same, List.nil_append, signsV, List.map_map, List.map_map]
      rfl
    · have := h _ (same_upd (o := .lst ([] ++ (signsV t).map fun x => match x with | .str z => (match tl z with | [c] => .bl (decide (c ∈ tl S)) | _ => .non) | _ => .non)) hD) (fun nt => nt.upd rfl)
      have e : ((tl t).map (fun c => decide (c ∈ tl S))).all id = (tl t).all fun c => decide (c ∈ tl S) := by
        rw [List.all_map]
        rfl
      rw [← e] at this
      exact this
/-- the last row of the def -/
def eVal : Ex := (.ite (.and (.cons (.chn .le .le (.cst (.int 1)) (.var 2) (.cst (.int 3099))) (.cons (.cmp .eq (.call 13 (.cons (.var 2) (.cons (.var 1) .nil))) (.var 0)) .nil))) (.var 2) (.cst .non))
theorem r_val_end {t k : Str} {i : Nat} {z : Int} {us : L2.St} {H : Hp} {Q : VK} (nt : NoT H) (hk : kidx k = some i)
    (h : Q (nofV (if 1 ≤ z ∧ z ≤ 3099 ∧ lnumL i z.toNat = tl t then some z.toNat else none)) H) : rdE (Gv aK aR) K eVal (some (.str t) :: some (.str k) :: some (.int z) :: us) H Q := by
  refine (show (if decide ((1 : Int) ≤ z) = true then (if decide (z ≤ 3099) = true then spP lawNumeralM [.int z, .str k] H (fun x H1 => rdC K .eq x (.str t) H1 fun x H1 => rdBo x H1 fun b H1 => if b = true then Q (.int z) H1 else Q .non H1) E0 else Q .non H) else Q .non H) from ?_)
  by_cases h1 : 1 ≤ z
  · refine ite_t (dec_true h1) ?_
    by_cases h2 : z ≤ 3099
    · refine ite_t (dec_true h2) ⟨nt, outV_go (v := .str (mk (lnumL i z.toNat))) ?_ ?_⟩
      · show (if 1 ≤ z ∧ z ≤ 3099 then (kidx k).map fun i => V.str (mk (lnumL i z.toNat)) else none) = _
        rw [if_pos ⟨h1, h2⟩, hk]
        rfl
      refine (show (if decide (mk (lnumL i z.toNat) = t) = true then Q (.int z) H else Q .non H) from ?_)
      by_cases he : lnumL i z.toNat = tl t
      · refine ite_t (dec_true (ext_tl (by rw [tl_mk', he]))) ?_
        rw [if_pos ⟨h1, h2, he⟩] at h
        have h : Q (.int (z.toNat : Int)) H := h
        rw [Int.toNat_of_nonneg (by omega)] at h
        exact h
      · refine ite_f (by rw [dec_false (fun z => he (congrArg tl z))]; decide) ?_
        rw [if_neg (fun z => he z.2.2)] at h
        exact h
    · refine ite_f (by rw [dec_false h2]; decide) ?_
      rw [if_neg (fun z => h2 z.2.1)] at h
      exact h
  · refine ite_f (by rw [dec_false h1]; decide) ?_
    rw [if_neg (fun z => h1 z.1)] at h
    exact h
/-! ### the letters' fold -/
def bVl : Sxs := (.cons (.asg (.nm 2) (.bin .add (.bin .add (.bin .mul (.var 2) (.cst (.int 26))) (.m1 .index (.cst (.str "abcdefghijklmnopqrstuvwxyz")) (.var 3))) (.cst (.int 1))))
  .nil)
theorem posN_mem : ∀ (l : List Nat) (c k : Nat), c ∈ l → 0 ≤ posN l c k
  | [], _, _, h => by simp at h
  | d :: r, c, k, h => by
    unfold posN
    by_cases e : d = c
    · rw [if_pos e]; omega
    · rw [if_neg e]
      rcases List.mem_cons.mp h with e' | h'
      · exact absurd e'.symm e
      · exact posN_mem r c (k + 1) h'
theorem vl_loop {v0 v1 : V} {u4 u5 u6 : Option V} : ∀ (l : List Nat) (z : Int) (D : Ends) (u : Option V) (H : Hp), (l.all fun c => decide (c ∈ LETc)) = true → (∀ u, D.nx [some v0, some v1, some (.int (plcL LETc 1 l z)), u, u4, u5, u6] H) →
    forL (fun _ => True) (rdG K (.nm 3)) (rdSs (Gv aK aR) K bVl) (l.map fun c => V.str ⟨#[c]⟩) D [some v0, some v1, some (.int z), u, u4, u5, u6] H
  | [], z, D, u, H, _, h => ⟨True.intro, h u⟩
  | c :: r, z, D, u, H, ha, h => by
    rw [List.all_cons, Bool.and_eq_true, decide_eq_true_eq] at ha
    have ef : Txt.find LET ⟨#[c]⟩ = posL LETc c 0 := by rw [find_one, LET_tl, posL_eq]
    refine ⟨True.intro, .inr (.inr ⟨by decide, by decide⟩), ?_, ?_⟩
    · show 0 ≤ Txt.find LET ⟨#[c]⟩
      rw [ef, posL_eq]
      exact posN_mem _ _ _ ha.1
    · have ih := vl_loop r (z * 26 + Txt.find LET ⟨#[c]⟩ + 1) D (some (.str ⟨#[c]⟩)) H ha.2 (fun u => by
        have := h u
        have e : plcL LETc 1 (c :: r) z = plcL LETc 1 r (z * 26 + Txt.find LET ⟨#[c]⟩ + 1) := by
          rw [ef]
          rfl
        rw [e] at this
        exact this)
      exact ih
/-! ### the Roman fold -/
def WOR : List (Key × V) := [(.inr "i", (.int 1)), (.inr "v", (.int 5)), (.inr "x", (.int 10)), (.inr "l", (.int 50)), (.inr "c", (.int 100)), (.inr "d", (.int 500)), (.inr "m", (.int 1000))]
theorem wor_at {c : Nat} (h : c ∈ ROMc) : valV WOR (Sum.inr (⟨#[c]⟩ : Str)) = some (.int (wor c)) := by
  have : ∀ c ∈ ROMc, valV WOR (Sum.inr (⟨#[c]⟩ : Str)) = some (.int (wor c)) := by decide +kernel
  exact this c h
def bVr : Sxs := (.cons (.asg (.nm 6) (.and (.cons (.cmp .ne (.var 5) (.cst (.str " "))) (.cons (.cmp .gt (.dgt (.var 4) (.var 5)) (.dgt (.var 4) (.var 3))) .nil))))
  (.cons (.asg (.nm 2) (.ite (.var 6) (.bin .sub (.var 2) (.dgt (.var 4) (.var 3))) (.bin .add (.var 2) (.dgt (.var 4) (.var 3)))))
  .nil))
theorem sp_lit : (" " : Str) = mk [32] := by decide +kernel
theorem vr_loop {v0 v1 : V} {p : Addr} {H : Hp} (hp : H p = some (.dK WOR)) : ∀ (l : List Nat) (z : Int) (D : Ends) (u3 u5 u6 : Option V), (l.all fun c => decide (c ∈ ROMc)) = true → (∀ u3 u5 u6, D.nx [some v0, some v1, some (.int (lrv l z)), u3, some (.ref p), u5, u6] H) →
    forP (fun _ => True) [3, 5] (rdSs (Gv aK aR) K bVr) (zipV (l.map fun c => V.str ⟨#[c]⟩) ((l.drop 1 ++ [32]).map fun c => V.str ⟨#[c]⟩)) D [some v0, some v1, some (.int z), u3, some (.ref p), u5, u6] H
  | [], z, D, u3, u5, u6, _, h => ⟨True.intro, h u3 u5 u6⟩
  | [c], z, D, u3, u5, u6, ha, h => by
    rw [List.all_cons, Bool.and_eq_true, decide_eq_true_eq] at ha
    refine ⟨True.intro, ?_⟩
    refine ⟨WOR, .int (wor c), hp, wor_at ha.1, ?_⟩
    exact ⟨True.intro, h _ _ _⟩
  | c :: d :: r, z, D, u3, u5, u6, ha, h => by
    rw [List.all_cons, Bool.and_eq_true, decide_eq_true_eq] at ha
    have hd := ha.2
    rw [List.all_cons, Bool.and_eq_true, decide_eq_true_eq] at hd
    have hne : d ≠ 32 := fun e => absurd hd.1 (by rw [e]; decide)
    refine ⟨True.intro, ?_⟩
    show if (!decide ((⟨#[d]⟩ : Str) = " ")) = true then _ else _
    refine ite_t (by rw [sp_lit, sg_dec, dec_false hne]; rfl) ?_
    refine ⟨WOR, .int (wor d), hp, wor_at hd.1, WOR, .int (wor c), hp, wor_at ha.1, ?_⟩
    show if decide (wor c < wor d) = true then _ else _
    by_cases hw : wor c < wor d
    · refine ite_t (dec_true hw) ⟨WOR, .int (wor c), hp, wor_at ha.1, ?_⟩
      refine vr_loop hp (d :: r) (z - wor c) D _ _ _ ha.2 fun a b e => ?_
      have := h a b e
      have e1 : lrv (c :: d :: r) z = lrv (d :: r) (z - wor c) := by
        show lrv (d :: r) (if decide (wor c < wor d) = true then z - wor c else z + wor c) = _
        rw [if_pos (dec_true hw)]
      rw [e1] at this
      exact this
    · refine ite_f (by rw [dec_false hw]; decide) ⟨WOR, .int (wor c), hp, wor_at ha.1, ?_⟩
      refine vr_loop hp (d :: r) (z + wor c) D _ _ _ ha.2 fun a b e => ?_
      have := h a b e
      have e1 : lrv (c :: d :: r) z = lrv (d :: r) (z + wor c) := by
        show lrv (d :: r) (if decide (wor c < wor d) = true then z - wor c else z + wor c) = _
        rw [if_neg (by rw [dec_false hw]; decide)]
      rw [e1] at this
      exact this
end
end K1

end

section
set_option Elab.async false
set_option linter.all false
set_option maxRecDepth 100000
namespace K1
open PySem PySem.Spec PyProof.Rows L2 EV TL
theorem same_trans {a b c : Hp} (h : Same a b) (g : Same b c) : Same a c := fun p o e => g p o (h p o e)
theorem bne_t {b : Bool} (h : b = false) : ¬ (b = true) := by rw [h]; decide
theorem some_inj {a b : Nat} (h : some a = some b) : a = b := Option.some.inj h
theorem e_str : ("" : Str) = mk [] := by decide +kernel
section
variable {aK aR : Addr} {K : PySem.W.Frag}
theorem FIG_tl' : tl ("0123456789" : Str) = FIGc := by decide +kernel
theorem LET_tl' : tl ("abcdefghijklmnopqrstuvwxyz" : Str) = LETc := by decide +kernel
theorem ROM_tl : tl ("ivxlcdm" : Str) = ROMc := by decide +kernel
theorem kidx_cases {k : Str} {i : Nat} (h : kidx k = some i) : (k = "figures" ∧ i = 0) ∨ (k ≠ "figures" ∧ k = "letters" ∧ i = 1) ∨ (k ≠ "figures" ∧ k ≠ "letters" ∧ k = "roman" ∧ i = 2) := by
  unfold kidx at h
  by_cases e0 : k = "figures"
  · rw [if_pos e0] at h
    exact .inl ⟨e0, (some_inj h).symm⟩
  · rw [if_neg e0] at h
    by_cases e1 : k = "letters"
    · rw [if_pos e1] at h
      exact .inr (.inl ⟨e0, e1, (some_inj h).symm⟩)
    · rw [if_neg e1] at h
      by_cases e2 : k = "roman"
      · rw [if_pos e2] at h
        exact .inr (.inr ⟨e0, e1, e2, (some_inj h).symm⟩)
      · rw [if_neg e2] at h
        cases h
theorem r_value0 {t k : Str} {H : Hp} {Q : VK} (nt : NoT H) (hl : t.length ≤ 1000000) (hk : kidx k = some 0) (e0 : k = "figures") (h : ∀ H', Same H H' → Q (nofV (valL 0 (tl t))) H') :
    rdSs (Gv aK aR) K B__law_value { nx := fun _ H' => Q .non H', rt := Q } (L2.start N__law_value [.str t, .str k]) H := by
  show if decide (k = "figures") = true then _ else _
  refine ite_t (dec_true e0) ?_
  have hv : valL 0 (tl t) = match lval 0 (tl t) with
    | some g => if 1 ≤ g ∧ g ≤ 3099 ∧ lnumL 0 g.toNat = tl t then some g.toNat else none
    | none => none := rfl
  have hu : lval 0 (tl t) = if tl t = [] ∨ 4 < (tl t).length ∨ ((tl t).all fun c => decide (c ∈ FIGc)) = false then none else some (plcL FIGc 0 (tl t) 0) := rfl
  rw [hu] at hv
  show if decide (t = "") = true then _ else _
  by_cases h1 : t = ""
  · refine ite_t (dec_true h1) ?_
    rw [if_pos (.inl (by rw [h1]; decide +kernel))] at hv
    rw [hv] at h
    exact h H (Same.refl H)
  · refine ite_f (bne_t (dec_false h1)) ⟨sz _ hl, ?_⟩
    have hn : tl t ≠ [] := fun e => h1 (ext_tl (by rw [e]; decide +kernel))
    show if decide (4 < (t.length : Int)) = true then _ else _
    by_cases h2 : 4 < (tl t).length
    · refine ite_t (dec_true (by rw [len_tl]; omega)) ?_
      rw [if_pos (.inr (.inl h2))] at hv
      rw [hv] at h
      exact h H (Same.refl H)
    · refine ite_f (bne_t (dec_false (by rw [len_tl]; omega))) ?_
      refine all_in hl fun H' s n => ?_
      rw [FIG_tl']
      cases ha : (tl t).all fun c => decide (c ∈ FIGc) with
      | false =>
        rw [if_pos (.inr (.inr ha))] at hv
        rw [hv] at h
        exact h H' s
      | true =>
        rw [if_neg (by rw [ha]; rintro (z | z | z); exact hn z; exact h2 z; cases z)] at hv
        rw [hv] at h
        refine ⟨plcL FIGc 0 (tl t) 0, int_fig (l := tl t) hn (Nat.le_of_not_lt h2) ha, by have := @len_tl t; omega, ?_⟩
        exact r_val_end (n nt) hk (h H' s)
theorem r_value1 {t k : Str} {H : Hp} {Q : VK} (nt : NoT H) (hl : t.length ≤ 1000000) (hk : kidx k = some 1) (e0 : k ≠ "figures") (e1 : k = "letters") (h : ∀ H', Same H H' → Q (nofV (valL 1 (tl t))) H') :
    rdSs (Gv aK aR) K B__law_value { nx := fun _ H' => Q .non H', rt := Q } (L2.start N__law_value [.str t, .str k]) H := by
  show if decide (k = "figures") = true then _ else _
  refine ite_f (bne_t (dec_false e0)) ?_
  show if decide (k = "letters") = true then _ else _
  refine ite_t (dec_true e1) ?_
  have hv : valL 1 (tl t) = match lval 1 (tl t) with
    | some g => if 1 ≤ g ∧ g ≤ 3099 ∧ lnumL 1 g.toNat = tl t then some g.toNat else none
    | none => none := rfl
  have hu : lval 1 (tl t) = if 4 < (tl t).length ∨ ((tl t).all fun c => decide (c ∈ LETc)) = false then none else some (plcL LETc 1 (tl t) 0) := rfl
  rw [hu] at hv
  refine ⟨sz _ hl, ?_⟩
  show if decide (4 < (t.length : Int)) = true then _ else _
  by_cases h2 : 4 < (tl t).length
  · refine ite_t (dec_true (by rw [len_tl]; omega)) ?_
    rw [if_pos (.inl h2)] at hv
    rw [hv] at h
    exact h H (Same.refl H)
  · refine ite_f (bne_t (dec_false (by rw [len_tl]; omega))) ?_
    refine all_in hl fun H' s n => ?_
    rw [LET_tl']
    cases ha : (tl t).all fun c => decide (c ∈ LETc) with
    | false =>
      rw [if_pos (.inr ha)] at hv
      rw [hv] at h
      exact h H' s
    | true =>
      rw [if_neg (by rw [ha]; rintro (z | z); exact h2 z; cases z)] at hv
      rw [hv] at h
      exact vl_loop (tl t) 0 _ none H' ha fun u => r_val_end (n nt) hk (h H' s)
theorem r_value2 {t k : Str} {H : Hp} {Q : VK} (nt : NoT H) (hl : t.length ≤ 1000000) (hk : kidx k = some 2) (e0 : k ≠ "figures") (e1 : k ≠ "letters") (h : ∀ H', Same H H' → Q (nofV (valL 2 (tl t))) H') :
    rdSs (Gv aK aR) K B__law_value { nx := fun _ H' => Q .non H', rt := Q } (L2.start N__law_value [.str t, .str k]) H := by
  show if decide (k = "figures") = true then _ else _
  refine ite_f (bne_t (dec_false e0)) ?_
  show if decide (k = "letters") = true then _ else _
  refine ite_f (bne_t (dec_false e1)) ?_
  have hv : valL 2 (tl t) = match lval 2 (tl t) with
    | some g => if 1 ≤ g ∧ g ≤ 3099 ∧ lnumL 2 g.toNat = tl t then some g.toNat else none
    | none => none := rfl
  have hu : lval 2 (tl t) = if 20 < (tl t).length ∨ ((tl t).all fun c => decide (c ∈ ROMc)) = false then none else some (lrv (tl t) 0) := rfl
  rw [hu] at hv
  refine fun p hp => ⟨sz _ hl, ?_⟩
  have s0 : Same H (upd H p (.dK WOR)) := same_upd hp
  have n0 : NoT (upd H p (.dK WOR)) := nt.upd rfl
  show if decide (20 < (t.length : Int)) = true then _ else _
  by_cases h2 : 20 < (tl t).length
  · refine ite_t (dec_true (by rw [len_tl]; omega)) ?_
    rw [if_pos (.inl h2)] at hv
    rw [hv] at h
    exact h _ s0
  · refine ite_f (bne_t (dec_false (by rw [len_tl]; omega))) ?_
    refine all_in hl fun H' s n => ?_
    rw [ROM_tl]
    cases ha : (tl t).all fun c => decide (c ∈ ROMc) with
    | false =>
      rw [if_pos (.inr ha)] at hv
      rw [hv] at h
      exact h H' (same_trans s0 s)
    | true =>
      rw [if_neg (by rw [ha]; rintro (z | z); exact h2 z; cases z)] at hv
      rw [hv] at h
      refine ⟨sz _ hl, ?_⟩
      have ec : cutS t (some 1) none = mk ((tl t).drop 1) := cutS_drop t 1
      have ey : cutS t (some 1) none ++ (" " : Str) = mk ((tl t).drop 1 ++ [32]) := by rw [ec, sp_lit, mk_app]
      refine ⟨?_, ?_⟩
      · rw [ec, mk_len, List.length_drop]
        refine Nat.le_trans (m := 30) ?_ (by decide)
        show (tl t).length - 1 + 1 ≤ 30
        omega
      · have hr : ∀ c ∈ ROMc, c < 128 := by decide
        have al : ∀ c ∈ tl t, c < 128 := fun c hc => hr c (of_decide_eq_true (List.all_eq_true.mp ha c hc))
        have key : ∀ y : Str, y = mk ((tl t).drop 1 ++ [32]) → (t.cps.all (· < 128) = true ∧ y.cps.all (· < 128) = true ∧ t.cps.size ≤ y.cps.size) ∧ forP (fun _ => True) [3, 5] (rdSs (Gv aK aR) K bVr) (zipV (signsV t) (signsV y)) { nx := fun σ H => rdE (Gv aK aR) K eVal σ H Q, rt := Q } [some (.str t), some (.str k), some (.int 0), none, some (.ref p), none, none] H' := by
          rintro y rfl
          refine ⟨⟨?_, ?_, ?_⟩, ?_⟩
          · rw [← Array.all_toList]
            exact List.all_eq_true.mpr fun c hc => decide_eq_true (al c hc)
          · rw [← Array.all_toList]
            refine List.all_eq_true.mpr fun c hc => decide_eq_true ?_
            rcases List.mem_append.mp (show c ∈ (tl t).drop 1 ++ [32] from hc) with z | z
            · exact al c (List.mem_of_mem_drop z)
            · rw [List.mem_singleton.mp z]; decide
          · show t.length ≤ (mk ((tl t).drop 1 ++ [32])).length
            rw [mk_len, List.length_append, List.length_drop, len_tl]
            show (tl t).length ≤ (tl t).length - 1 + 1
            omega
          · exact vr_loop (s p _ upd_same) (tl t) 0 _ none none none ha fun a b c => r_val_end (n n0) hk (h H' (same_trans s0 s))
        exact key _ ey
theorem r_law_value {t k : Str} {i : Nat} {H : Hp} {Q : VK} (nt : NoT H) (hl : t.length ≤ 1000000) (hk : kidx k = some i) (h : ∀ H', Same H H' → Q (nofV (valL i (tl t))) H') :
    rdSs (Gv aK aR) K B__law_value { nx := fun _ H' => Q .non H', rt := Q } (L2.start N__law_value [.str t, .str k]) H := by
  rcases kidx_cases hk with ⟨e, rfl⟩ | ⟨e, e', rfl⟩ | ⟨e, e', _, rfl⟩
  · exact r_value0 nt hl hk e h
  · exact r_value1 nt hl hk e e' h
  · exact r_value2 nt hl hk e e' h
end
end K1

end

section
set_option linter.all false
set_option maxRecDepth 100000
namespace K1
def ix (i : Nat) : Prop := i = 0 ∨ i = 1 ∨ i = 2
theorem gs_ok {i n : Nat} (hi : ix i) (h1 : 1 ≤ n) (h2 : n ≤ 3099) : guessL i (numL i n) = n := by
  rcases hi with rfl | rfl | rfl
  · exact of_decide_eq_true (allN_ok guess_all0 h1 h2)
  · exact of_decide_eq_true (allN_ok guess_all1 h1 h2)
  · exact of_decide_eq_true (allN_ok guess_all2 h1 h2)
theorem len_ok {i n : Nat} (hi : ix i) (h1 : 1 ≤ n) (h2 : n ≤ 3099) : (numL i n).length ≤ 14 := by
  rcases hi with rfl | rfl | rfl
  · have := of_decide_eq_true (allN_ok len_all0 h1 h2)
    omega
  · exact of_decide_eq_true (allN_ok len_all1 h1 h2)
  · exact of_decide_eq_true (allN_ok len_all2 h1 h2)
theorem ln_ok {i n : Nat} (hi : ix i) (h1 : 1 ≤ n) (h2 : n ≤ 3099) : lnumL i n = numL i n := by
  rcases hi with rfl | rfl | rfl
  · rfl
  · exact of_decide_eq_true (allN_ok ln_all1 h1 h2)
  · exact of_decide_eq_true (allN_ok ln_all2 h1 h2)
theorem lv_ok {i n : Nat} (hi : ix i) (h1 : 1 ≤ n) (h2 : n ≤ 3099) : lval i (numL i n) = some (n : Int) := by
  rcases hi with rfl | rfl | rfl
  · exact of_decide_eq_true (allN_ok lv_all0 h1 h2)
  · exact of_decide_eq_true (allN_ok lv_all1 h1 h2)
  · exact of_decide_eq_true (allN_ok lv_all2 h1 h2)
theorem nof_num {i n : Nat} (hi : ix i) (h1 : 1 ≤ n) (h2 : n ≤ 3099) : nofL i (numL i n) = some n := by
  unfold nofL
  have e := gs_ok hi h1 h2
  rw [e]
  have en : (n : Int).toNat = n := Int.toNat_natCast n
  rw [en, if_pos ⟨len_ok hi h1 h2, by omega, by omega, rfl⟩]
theorem nof_some {i n : Nat} {l : List Nat} (h : nofL i l = some n) : 1 ≤ n ∧ n ≤ 3099 ∧ numL i n = l := by
  unfold nofL at h
  split at h
  · rename_i c
    have e := Option.some.inj h
    rw [e] at c
    refine ⟨by omega, by omega, c.2.2.2⟩
  · cases h
theorem val_num {i n : Nat} (hi : ix i) (h1 : 1 ≤ n) (h2 : n ≤ 3099) : valL i (numL i n) = some n := by
  unfold valL
  rw [lv_ok hi h1 h2]
  have en : (n : Int).toNat = n := Int.toNat_natCast n
  show (if 1 ≤ (n : Int) ∧ (n : Int) ≤ 3099 ∧ lnumL i (n : Int).toNat = numL i n then some (n : Int).toNat else none) = _
  rw [en, if_pos ⟨by omega, by omega, ln_ok hi h1 h2⟩]
theorem val_some {i n : Nat} {l : List Nat} (hi : ix i) (h : valL i l = some n) : 1 ≤ n ∧ n ≤ 3099 ∧ numL i n = l := by
  unfold valL at h
  split at h
  · rename_i g _
    split at h
    · rename_i c
      have e := Option.some.inj h
      rw [e] at c
      have h1 : 1 ≤ n := by omega
      have h2 : n ≤ 3099 := by omega
      rw [ln_ok hi h1 h2] at c
      exact ⟨h1, h2, c.2.2⟩
    · cases h
  · cases h
theorem val_nof {i : Nat} (hi : ix i) (l : List Nat) : valL i l = nofL i l := by
  cases h : valL i l with
  | some n =>
    obtain ⟨h1, h2, rfl⟩ := val_some hi h
    rw [nof_num hi h1 h2]
  | none =>
    cases g : nofL i l with
    | none => rfl
    | some n =>
      obtain ⟨h1, h2, rfl⟩ := nof_some g
      rw [val_num hi h1 h2] at h
      cases h
theorem num_ne {i n : Nat} (hi : ix i) (h1 : 1 < n) (h2 : n ≤ 3099) : numL i (n - 1) ≠ numL i n := fun e => by
  have a := nof_num hi (n := n) (by omega) h2
  have b := nof_num hi (n := n - 1) (by omega) (by omega)
  rw [← e, b] at a
  have := Option.some.inj a
  omega
end K1

end

section
set_option Elab.async false
set_option linter.all false
set_option maxRecDepth 100000
namespace K1
open PySem PySem.Spec PyProof.Rows L2 EV TL
def spCell (K : PySem.W.Frag) : Sp := fun vs H Q _ => ∃ (a : Addr) (ns : List Int) (k : Nat), vs = [.ref a, .int k] ∧ SqL K H a (ns.map V.int) ∧ ∀ c : Int, Q (.int c) H
abbrev F17 (K : PySem.W.Frag) : List (Str × Sp) := [("is_kind", spP isKindM), ("check_kind", spP checkKindM), ("in_roman", spP inRomanM), ("is_number", spP isNumberM), ("in_letters", spP inLettersM), ("numeral", spP numeralM), ("guess_roman", spP guessRomanM), ("guess_places", spP guessPlacesM), ("guess", spP guessM), ("number_of", spP numberOfM), ("_law_draw", spP lawDrawM), ("_law_number", spP lawNumM), ("_law_pow", spP lawPowM), ("_law_numeral", spP lawNumeralM), ("_law_whole", spP lawWholeM), ("_law_value", spP lawValueM), ("_law_cell_at", spCell K)]
def bMk : Sxs := (.cons (.asg (.nm 6) (.call 13 (.cons (.var 4) (.cons (.var 5) .nil)))) (.cons (.asg (.nm 7) (.call 11 (.cons (.var 2) (.cons (.bin .add (.var 1) (.cst (.int 1))) (.cons (.bin .add (.blt .len (.cons (.var 6) .nil)) (.cst (.int 1))) .nil))))) (.cons (.asg (.nm 8) (.idx (.cst (.str "ivxlcdm0159az")) (.call 11 (.cons (.var 2) (.cons (.bin .add (.var 1) (.cst (.int 2))) (.cons (.cst (.int 13)) .nil)))))) (.cons (.asg (.nm 3) (.bin .add (.var 3) (.lst (.cons (.bin .add (.bin .add (.slc (.var 6) .nil (.cons (.var 7) .nil)) (.var 8)) (.slc (.var 6) (.cons (.var 7) .nil) .nil)) (.cons (.bin .add (.slc (.var 6) .nil (.cons (.var 7) .nil)) (.slc (.var 6) (.cons (.bin .add (.var 7) (.cst (.int 1))) .nil) .nil)) (.cons (.bin .add (.bin .add (.slc (.var 6) .nil (.cons (.var 7) .nil)) (.var 8)) (.slc (.var 6) (.cons (.bin .add (.var 7) (.cst (.int 1))) .nil) .nil)) .nil)))))) .nil))))
def bDr : Sxs := (.cons (.asg (.nm 9) (.bin .add (.var 9) (.idx (.cst (.str "ivxcm9b")) (.call 11 (.cons (.bin .add (.var 2) (.var 10)) (.cons (.bin .add (.var 1) (.var 10)) (.cons (.cst (.int 7)) .nil))))))) .nil)
def bKi : Sxs := (.cons (.asg (.nm 11) (.call 9 (.cons (.var 6) (.cons (.var 5) .nil)))) (.cons (.ite (.or (.cons (.cmp .ne (.var 11) (.call 15 (.cons (.var 6) (.cons (.var 5) .nil)))) (.cons (.and (.cons (.cmp .notN (.var 11) (.cst .non)) (.cons (.not (.call 14 (.cons (.var 11) .nil))) .nil))) .nil))) (.cons (.ret (.cst (.bl false))) .nil) .nil) .nil))
def bTx : Sxs := (.cons (.for_ (.nm 5) .tup (.cons (.tup (.cons (.cst (.str "figures")) (.cons (.cst (.str "letters")) (.cons (.cst (.str "roman")) .nil)))) .nil) (.cons (.asg (.nm 11) (.call 9 (.cons (.var 6) (.cons (.var 5) .nil)))) (.cons (.ite (.or (.cons (.cmp .ne (.var 11) (.call 15 (.cons (.var 6) (.cons (.var 5) .nil)))) (.cons (.and (.cons (.cmp .notN (.var 11) (.cst .non)) (.cons (.not (.call 14 (.cons (.var 11) .nil))) .nil))) .nil))) (.cons (.ret (.cst (.bl false))) .nil) .nil) .nil))) .nil)
def bBy : Sxs := (.cons (.asg (.nm 2) (.call 16 (.cons (.var 0) (.cons (.var 1) .nil)))) (.cons (.asg (.nm 3) (.lst (.cons (.cst (.str "")) (.cons (.cst (.str "0")) (.cons (.cst (.str "01")) (.cons (.cst (.str "3100")) (.cons (.cst (.str "a")) (.cons (.cst (.str "iiii")) (.cons (.cst (.str "vx")) (.cons (.cst (.str "ic")) (.cons (.cst (.str "mmmm")) (.cons (.cst (.str "mmmxcix")) (.cons (.cst (.str "cmcm")) (.cons (.cst (.str "xlx")) .nil)))))))))))))) (.cons (.asg (.nm 3) (.bin .add (.var 3) (.lst (.cons (.cst (.str "A")) (.cons (.cst (.str "1a")) (.cons (.cst (.str "edu")) (.cons (.cst (.str "edw")) (.cons (.cst (.str "doe")) (.cons (.cst (.str "dof")) (.cons (.cst (.str "mmmc")) (.cons (.cst (.str "1_0")) (.cons (.cst (.str "+7")) (.cons (.cst (.str " 7")) (.cons (.cst (.str "7 ")) (.cons (.cst (.str "-7")) (.cons (.cst (.str "1e3")) (.cons (.cst (.str "7\n")) .nil))))))))))))))))) (.cons (.asg (.nm 3) (.bin .add (.var 3) (.lst (.cons (.cst (.str "a\n")) (.cons (.cst (.str "{")) (.cons (.cst (.str "`")) (.cons (.cst (.str "i\n")) (.cons (.cst (.str "a{")) (.cons (.cst (.str "`a")) .nil))))))))) (.cons (.asg (.nm 4) (.bin .add (.cst (.int 1)) (.call 11 (.cons (.var 2) (.cons (.var 1) (.cons (.cst (.int 3099)) .nil)))))) (.cons (.for_ (.nm 5) .tup (.cons (.tup (.cons (.cst (.str "figures")) (.cons (.cst (.str "letters")) (.cons (.cst (.str "roman")) .nil)))) .nil) (.cons (.asg (.nm 6) (.call 13 (.cons (.var 4) (.cons (.var 5) .nil)))) (.cons (.asg (.nm 7) (.call 11 (.cons (.var 2) (.cons (.bin .add (.var 1) (.cst (.int 1))) (.cons (.bin .add (.blt .len (.cons (.var 6) .nil)) (.cst (.int 1))) .nil))))) (.cons (.asg (.nm 8) (.idx (.cst (.str "ivxlcdm0159az")) (.call 11 (.cons (.var 2) (.cons (.bin .add (.var 1) (.cst (.int 2))) (.cons (.cst (.int 13)) .nil)))))) (.cons (.asg (.nm 3) (.bin .add (.var 3) (.lst (.cons (.bin .add (.bin .add (.slc (.var 6) .nil (.cons (.var 7) .nil)) (.var 8)) (.slc (.var 6) (.cons (.var 7) .nil) .nil)) (.cons (.bin .add (.slc (.var 6) .nil (.cons (.var 7) .nil)) (.slc (.var 6) (.cons (.bin .add (.var 7) (.cst (.int 1))) .nil) .nil)) (.cons (.bin .add (.bin .add (.slc (.var 6) .nil (.cons (.var 7) .nil)) (.var 8)) (.slc (.var 6) (.cons (.bin .add (.var 7) (.cst (.int 1))) .nil) .nil)) .nil)))))) .nil))))) (.cons (.asg (.nm 9) (.cst (.str ""))) (.cons (.for_ (.nm 10) .rng1 (.cons (.call 11 (.cons (.var 2) (.cons (.bin .add (.var 1) (.cst (.int 3))) (.cons (.cst (.int 6)) .nil)))) .nil) (.cons (.asg (.nm 9) (.bin .add (.var 9) (.idx (.cst (.str "ivxcm9b")) (.call 11 (.cons (.bin .add (.var 2) (.var 10)) (.cons (.bin .add (.var 1) (.var 10)) (.cons (.cst (.int 7)) .nil))))))) .nil)) (.cons (.for_ (.nm 6) .lst (.cons (.bin .add (.var 3) (.lst (.cons (.var 9) .nil))) .nil) (.cons (.for_ (.nm 5) .tup (.cons (.tup (.cons (.cst (.str "figures")) (.cons (.cst (.str "letters")) (.cons (.cst (.str "roman")) .nil)))) .nil) (.cons (.asg (.nm 11) (.call 9 (.cons (.var 6) (.cons (.var 5) .nil)))) (.cons (.ite (.or (.cons (.cmp .ne (.var 11) (.call 15 (.cons (.var 6) (.cons (.var 5) .nil)))) (.cons (.and (.cons (.cmp .notN (.var 11) (.cst .non)) (.cons (.not (.call 14 (.cons (.var 11) .nil))) .nil))) .nil))) (.cons (.ret (.cst (.bl false))) .nil) .nil) .nil))) .nil)) .nil)))))))))
def bRep : Sxs := (.cons (.ite (.or (.cons (.cmp .notN (.call 9 (.cons (.bin .mul (.var 8) (.cst (.int 5000))) (.cons (.var 5) .nil))) (.cst .non)) (.cons (.cmp .notN (.call 9 (.cons (.bin .mul (.var 8) (.cst (.int 4))) (.cons (.var 5) .nil))) (.cst .non)) .nil))) (.cons (.ret (.cst (.bl false))) .nil) .nil) .nil)
def bBy5 : Sxs := (.cons (.for_ (.nm 5) .tup (.cons (.tup (.cons (.cst (.str "figures")) (.cons (.cst (.str "letters")) (.cons (.cst (.str "roman")) .nil)))) .nil) (.cons (.asg (.nm 6) (.call 13 (.cons (.var 4) (.cons (.var 5) .nil)))) (.cons (.asg (.nm 7) (.call 11 (.cons (.var 2) (.cons (.bin .add (.var 1) (.cst (.int 1))) (.cons (.bin .add (.blt .len (.cons (.var 6) .nil)) (.cst (.int 1))) .nil))))) (.cons (.asg (.nm 8) (.idx (.cst (.str "ivxlcdm0159az")) (.call 11 (.cons (.var 2) (.cons (.bin .add (.var 1) (.cst (.int 2))) (.cons (.cst (.int 13)) .nil)))))) (.cons (.asg (.nm 3) (.bin .add (.var 3) (.lst (.cons (.bin .add (.bin .add (.slc (.var 6) .nil (.cons (.var 7) .nil)) (.var 8)) (.slc (.var 6) (.cons (.var 7) .nil) .nil)) (.cons (.bin .add (.slc (.var 6) .nil (.cons (.var 7) .nil)) (.slc (.var 6) (.cons (.bin .add (.var 7) (.cst (.int 1))) .nil) .nil)) (.cons (.bin .add (.bin .add (.slc (.var 6) .nil (.cons (.var 7) .nil)) (.var 8)) (.slc (.var 6) (.cons (.bin .add (.var 7) (.cst (.int 1))) .nil) .nil)) .nil)))))) .nil))))) (.cons (.asg (.nm 9) (.cst (.str ""))) (.cons (.for_ (.nm 10) .rng1 (.cons (.call 11 (.cons (.var 2) (.cons (.bin .add (.var 1) (.cst (.int 3))) (.cons (.cst (.int 6)) .nil)))) .nil) (.cons (.asg (.nm 9) (.bin .add (.var 9) (.idx (.cst (.str "ivxcm9b")) (.call 11 (.cons (.bin .add (.var 2) (.var 10)) (.cons (.bin .add (.var 1) (.var 10)) (.cons (.cst (.int 7)) .nil))))))) .nil)) (.cons (.for_ (.nm 6) .lst (.cons (.bin .add (.var 3) (.lst (.cons (.var 9) .nil))) .nil) (.cons (.for_ (.nm 5) .tup (.cons (.tup (.cons (.cst (.str "figures")) (.cons (.cst (.str "letters")) (.cons (.cst (.str "roman")) .nil)))) .nil) (.cons (.asg (.nm 11) (.call 9 (.cons (.var 6) (.cons (.var 5) .nil)))) (.cons (.ite (.or (.cons (.cmp .ne (.var 11) (.call 15 (.cons (.var 6) (.cons (.var 5) .nil)))) (.cons (.and (.cons (.cmp .notN (.var 11) (.cst .non)) (.cons (.not (.call 14 (.cons (.var 11) .nil))) .nil))) .nil))) (.cons (.ret (.cst (.bl false))) .nil) .nil) .nil))) .nil)) .nil))))
def bBy6 : Sxs := (.cons (.asg (.nm 9) (.cst (.str ""))) (.cons (.for_ (.nm 10) .rng1 (.cons (.call 11 (.cons (.var 2) (.cons (.bin .add (.var 1) (.cst (.int 3))) (.cons (.cst (.int 6)) .nil)))) .nil) (.cons (.asg (.nm 9) (.bin .add (.var 9) (.idx (.cst (.str "ivxcm9b")) (.call 11 (.cons (.bin .add (.var 2) (.var 10)) (.cons (.bin .add (.var 1) (.var 10)) (.cons (.cst (.int 7)) .nil))))))) .nil)) (.cons (.for_ (.nm 6) .lst (.cons (.bin .add (.var 3) (.lst (.cons (.var 9) .nil))) .nil) (.cons (.for_ (.nm 5) .tup (.cons (.tup (.cons (.cst (.str "figures")) (.cons (.cst (.str "letters")) (.cons (.cst (.str "roman")) .nil)))) .nil) (.cons (.asg (.nm 11) (.call 9 (.cons (.var 6) (.cons (.var 5) .nil)))) (.cons (.ite (.or (.cons (.cmp .ne (.var 11) (.call 15 (.cons (.var 6) (.cons (.var 5) .nil)))) (.cons (.and (.cons (.cmp .notN (.var 11) (.cst .non)) (.cons (.not (.call 14 (.cons (.var 11) .nil))) .nil))) .nil))) (.cons (.ret (.cst (.bl false))) .nil) .nil) .nil))) .nil)) .nil)))
def bBy8 : Sxs := (.cons (.for_ (.nm 6) .lst (.cons (.bin .add (.var 3) (.lst (.cons (.var 9) .nil))) .nil) (.cons (.for_ (.nm 5) .tup (.cons (.tup (.cons (.cst (.str "figures")) (.cons (.cst (.str "letters")) (.cons (.cst (.str "roman")) .nil)))) .nil) (.cons (.asg (.nm 11) (.call 9 (.cons (.var 6) (.cons (.var 5) .nil)))) (.cons (.ite (.or (.cons (.cmp .ne (.var 11) (.call 15 (.cons (.var 6) (.cons (.var 5) .nil)))) (.cons (.and (.cons (.cmp .notN (.var 11) (.cst .non)) (.cons (.not (.call 14 (.cons (.var 11) .nil))) .nil))) .nil))) (.cons (.ret (.cst (.bl false))) .nil) .nil) .nil))) .nil)) .nil)
def bEnd : Sxs := (.cons (.for_ (.tup [5, 8]) .tup (.cons (.tup (.cons (.tup (.cons (.cst (.str "figures")) (.cons (.cst (.str "9")) .nil))) (.cons (.tup (.cons (.cst (.str "letters")) (.cons (.cst (.str "z")) .nil))) (.cons (.tup (.cons (.cst (.str "roman")) (.cons (.cst (.str "m")) .nil))) .nil)))) .nil) (.cons (.ite (.or (.cons (.cmp .notN (.call 9 (.cons (.bin .mul (.var 8) (.cst (.int 5000))) (.cons (.var 5) .nil))) (.cst .non)) (.cons (.cmp .notN (.call 9 (.cons (.bin .mul (.var 8) (.cst (.int 4))) (.cons (.var 5) .nil))) (.cst .non)) .nil))) (.cons (.ret (.cst (.bl false))) .nil) .nil) .nil)) (.cons (.ret (.and (.cons (.cmp .isN (.call 9 (.cons (.cst (.str "edw")) (.cons (.cst (.str "letters")) .nil))) (.cst .non)) (.cons (.cmp .eq (.call 9 (.cons (.cst (.str "ab")) (.cons (.cst (.str "letters")) .nil))) (.cst (.int 28))) .nil)))) .nil))
def KV : List V := [.str "figures", .str "letters", .str "roman"]
theorem KV_at {x : V} (h : x ∈ KV) : ∃ k i, x = .str k ∧ kidx k = some i ∧ ix i := by
  rcases List.mem_cons.mp h with e | h
  · exact ⟨_, 0, e, by decide +kernel, .inl rfl⟩
  rcases List.mem_cons.mp h with e | h
  · exact ⟨_, 1, e, by decide +kernel, .inr (.inl rfl)⟩
  rcases List.mem_cons.mp h with e | h
  · exact ⟨_, 2, e, by decide +kernel, .inr (.inr rfl)⟩
  · cases h
/-- a walk, with how many turns are left -/
theorem forL_goN {chk : Hp → Prop} {g : TG} {tb : TS} (Iv : Nat → L2.St → Hp → Prop) {D : Ends} (hc : ∀ n σ H, Iv n σ H → chk H) (hd : ∀ σ H, Iv 0 σ H → D.nx σ H) :
    ∀ (xs : List V) (σ : L2.St) (H : Hp), (∀ x ∈ xs, ∀ n σ H (D' : Ends), Iv (n + 1) σ H → (∀ σ' H', Iv n σ' H' → D'.nx σ' H') → g x σ H fun σ2 H2 => tb D' σ2 H2) → Iv xs.length σ H → forL chk g tb xs D σ H
  | [], σ, H, _, h => ⟨hc 0 σ H h, hd σ H h⟩
  | x :: r, σ, H, hb, h => ⟨hc _ σ H h, hb x List.mem_cons_self r.length σ H _ h fun σ' H' i => forL_goN Iv hc hd r σ' H' (fun y hy => hb y (List.mem_cons_of_mem _ hy)) i⟩
theorem forL_go {chk : Hp → Prop} {g : TG} {tb : TS} (Iv : L2.St → Hp → Prop) {D : Ends} (hc : ∀ σ H, Iv σ H → chk H) (hd : ∀ σ H, Iv σ H → D.nx σ H)
    (xs : List V) (σ : L2.St) (H : Hp) (hb : ∀ x ∈ xs, ∀ σ H (D' : Ends), Iv σ H → (∀ σ' H', Iv σ' H' → D'.nx σ' H') → g x σ H fun σ2 H2 => tb D' σ2 H2) (h : Iv σ H) : forL chk g tb xs D σ H :=
  forL_goN (fun _ => Iv) (fun _ => hc) hd xs σ H (fun x hx _ => hb x hx) h
theorem lnumeral_at {n : Nat} {k : Str} {i : Nat} (hi : ix i) (h1 : 1 ≤ n) (h2 : n ≤ 3099) (hk : kidx k = some i) : lawNumeralM [.int n, .str k] = some (.str (mk (numL i n))) := by
  show (if (1 : Int) ≤ n ∧ (n : Int) ≤ 3099 then (kidx k).map fun i => V.str (mk (lnumL i (n : Int).toNat)) else none) = _
  rw [if_pos ⟨by omega, by omega⟩, hk, Int.toNat_natCast]
  show some (V.str (mk (lnumL i n))) = _
  rw [ln_ok hi h1 h2]
theorem numof_at {t : Str} {k : Str} {i : Nat} (hl : t.length ≤ 1000000) (hk : kidx k = some i) : numberOfM [.str t, .str k] = some (nofV (nofL i (tl t))) := by
  show (if t.length ≤ 1000000 then (kidx k).map fun i => nofV (nofL i (tl t)) else none) = _
  rw [if_pos hl, hk]
  rfl
theorem value_at {t : Str} {k : Str} {i : Nat} (hi : ix i) (hl : t.length ≤ 1000000) (hk : kidx k = some i) : lawValueM [.str t, .str k] = some (nofV (nofL i (tl t))) := by
  show (if t.length ≤ 1000000 then (kidx k).map fun i => nofV (valL i (tl t)) else none) = _
  rw [if_pos hl, hk]
  show some (nofV (valL i (tl t))) = _
  rw [val_nof hi]
theorem lawnum_at {c k L : Int} (k0 : 0 ≤ k) (k1 : k ≤ 1000) (l0 : 0 < L) (l1 : L ≤ 1000000) : lawNumM [.int c, .int k, .int L] = some (.int (lawNum c k L)) := by
  show (if 0 ≤ k ∧ k ≤ 1000 ∧ 0 < L ∧ L ≤ 1000000 then _ else _) = _
  rw [if_pos ⟨k0, k1, l0, l1⟩]
theorem at_some {α : Type} {l : List α} {i : Int} (h0 : 0 ≤ i) (h1 : i < l.length) : ∃ c, atI l i = some c := by
  obtain ⟨j, rfl⟩ := Int.eq_ofNat_of_zero_le h0
  have hj : j < l.length := by omega
  exact ⟨l[j], atI_nat (List.getElem?_eq_getElem hj)⟩
theorem nof_long {i : Nat} {l : List Nat} (h : 14 < l.length) : nofL i l = none := by
  unfold nofL
  rw [if_neg (by omega)]
/-- texts, all short -/
def Shorts (ts : List Str) : Prop := ∀ t ∈ ts, t.length ≤ 100
theorem shorts_app {a b : List Str} (ha : Shorts a) (hb : Shorts b) : Shorts (a ++ b) := fun t h => (List.mem_append.mp h).elim (ha t) (hb t)
section
variable {aK aR : Addr} {K : PySem.W.Frag}
theorem r_cell {fn : List (Str × Sp)} {a : Addr} {ns : List Int} {k : Nat} {H : Hp} {Q : VK} (ha : SqL K H a (ns.map V.int)) (h : ∀ c : Int, Q (.int c) H) :
    rdSs ⟨N__law_cell_at, fn, gl aK aR, bl⟩ K B__law_cell_at { nx := fun _ H' => Q .non H', rt := Q } (L2.start N__law_cell_at [.ref a, .int k]) H := by
  refine ⟨ns.map V.int, .inl ha, ?_⟩
  show if decide ((k : Int) < ((ns.map V.int).length : Int)) = true then _ else _
  by_cases hk : (k : Int) < ((ns.map V.int).length : Int)
  · refine ite_t (dec_true hk) ?_
    have hj : k < ns.length := by rw [List.length_map] at hk; omega
    refine ⟨ns.map V.int, .int ns[k], .inl ha, atI_nat ?_, h _⟩
    rw [List.getElem?_map, List.getElem?_eq_getElem hj]
    rfl
  · exact ite_f (bne_t (dec_false hk)) (h 0)
abbrev Gx (K : PySem.W.Frag) (aK aR : Addr) : Gm := ⟨N_law, F17 K, gl aK aR, bl⟩
theorem ki_body {w0 w1 w2 w3 w4 w7 w8 w9 w10 w11 : Option V} {t k : Str} {i : Nat} {D : Ends} {H : Hp} (nt : NoT H) (hl : t.length ≤ 1000000) (hk : kidx k = some i) (hi : ix i)
    (h : ∀ u11, D.nx [w0, w1, w2, w3, w4, some (.str k), some (.str t), w7, w8, w9, w10, u11] H) : rdSs (Gx K aK aR) K bKi D [w0, w1, w2, w3, w4, some (.str k), some (.str t), w7, w8, w9, w10, w11] H := by
  refine ⟨nt, outV_go (numof_at hl hk) ⟨nt, outV_go (value_at hi hl hk) ?_⟩⟩
  cases nofL i (tl t) with
  | none => exact h _
  | some m =>
    show if (!decide ((m : Int) = (m : Int))) = true then _ else _
    refine ite_f (bne_t (by rw [dec_true rfl]; rfl)) ?_
    refine ⟨nt, outV_go (v := .bl true) rfl ?_⟩
    exact h _
theorem tx_body {w0 w1 w2 w3 w4 w5 w7 w8 w9 w10 w11 : Option V} {t : Str} {D : Ends} {H : Hp} (nt : NoT H) (hl : t.length ≤ 1000000)
    (h : ∀ H' u5 u11, Same H H' → NoT H' → D.nx [w0, w1, w2, w3, w4, u5, some (.str t), w7, w8, w9, w10, u11] H') : rdSs (Gx K aK aR) K bTx D [w0, w1, w2, w3, w4, w5, some (.str t), w7, w8, w9, w10, w11] H := by
  refine ⟨by decide, fun p hp => ⟨KV, ?_⟩⟩
  refine forL_go (fun σ H' => NoT H' ∧ Same (upd H p (.tup KV)) H' ∧ ∃ u5 u11, σ = [w0, w1, w2, w3, w4, u5, some (.str t), w7, w8, w9, w10, u11]) ?_ ?_ KV _ _ ?_ ?_
  · exact fun σ H' j => SqT.of (j.2.1 p _ upd_same)
  · rintro σ H' ⟨n', s', u5, u11, rfl⟩
    exact h H' _ _ (same_trans (same_upd hp) s') n'
  · rintro x hx σ H' D' ⟨n', s', u5, u11, rfl⟩ hD
    obtain ⟨k', i', rfl, hk', hi'⟩ := KV_at hx
    exact ki_body n' hl hk' hi' fun u => hD _ _ ⟨n', s', _, _, rfl⟩
  · exact ⟨nt.upd rfl, Same.refl _, _, _, rfl⟩
theorem by8_go {w0 w1 w2 w4 w5 w6 w7 w8 w10 w11 : Option V} {p : Addr} {ts : List Str} {t : Str} {D : Ends} {H : Hp} (nt : NoT H) (hp : H p = some (.lst (ts.map V.str))) (hn : ts.length ≤ 100) (hs : Shorts ts) (ht : t.length ≤ 100)
    (h : ∀ H' u5 u6 u11, Same H H' → NoT H' → D.nx [w0, w1, w2, some (.ref p), w4, u5, u6, w7, w8, some (.str t), w10, u11] H') : rdSs (Gx K aK aR) K bBy8 D [w0, w1, w2, some (.ref p), w4, w5, w6, w7, w8, some (.str t), w10, w11] H := by
  refine ⟨(show (1 : Nat) ≤ sizeLine by decide), fun q hq => ⟨ts.map V.str, [.str t], (same_upd hq) p _ hp, upd_same, ?_, fun r hr => ?_⟩⟩
  · rw [List.length_map]
    exact Nat.le_trans (show ts.length + 1 ≤ 1000 by omega) (by decide)
  have sr := same_trans (same_upd (o := .lst [.str t]) hq) (same_upd (o := .lst (ts.map V.str ++ [.str t])) hr)
  refine ⟨ts.map V.str ++ [.str t], ?_⟩
  refine forL_go (fun σ H' => NoT H' ∧ Same (upd (upd H q (.lst [.str t])) r (.lst (ts.map V.str ++ [.str t]))) H' ∧ ∃ u5 u6 u11, σ = [w0, w1, w2, some (.ref p), w4, u5, u6, w7, w8, some (.str t), w10, u11]) ?_ ?_ _ _ _ ?_ ⟨(nt.upd rfl).upd rfl, Same.refl _, _, _, _, rfl⟩
  · exact fun σ H' j => SqL.of (j.2.1 r _ upd_same)
  · rintro σ H' ⟨n', s', u5, u6, u11, rfl⟩
    exact h H' _ _ _ (same_trans sr s') n'
  · rintro x hx σ H' D' ⟨n', s', u5, u6, u11, rfl⟩ hD
    have : ∃ y : Str, x = .str y ∧ y.length ≤ 100 := by
      rcases List.mem_append.mp hx with z | z
      · obtain ⟨y, hy, e⟩ := List.mem_map.mp z
        exact ⟨y, e.symm, hs y hy⟩
      · exact ⟨t, List.mem_singleton.mp z, ht⟩
    obtain ⟨y, rfl, hy⟩ := this
    exact tx_body n' (by omega) fun H2 a b s2 n2 => hD _ _ ⟨n2, same_trans s' s2, _, _, _, rfl⟩
theorem by6_go {w0 w4 w5 w6 w7 w8 w9 w10 w11 : Option V} {p : Addr} {ts : List Str} {j : Nat} {c : Int} {D : Ends} {H : Hp} (nt : NoT H) (hj : j ≤ 20) (hp : H p = some (.lst (ts.map V.str))) (hn : ts.length ≤ 100) (hs : Shorts ts)
    (h : ∀ H' u5 u6 u9 u10 u11, Same H H' → NoT H' → D.nx [w0, some (.int j), some (.int c), some (.ref p), w4, u5, u6, w7, w8, u9, u10, u11] H') : rdSs (Gx K aK aR) K bBy6 D [w0, some (.int j), some (.int c), some (.ref p), w4, w5, w6, w7, w8, w9, w10, w11] H := by
  refine ⟨nt, outV_go (lawnum_at (c := c) (k := (j : Int) + 3) (L := 6) (by omega) (by omega) (by decide) (by decide)) ?_⟩
  have b := lawNum_b (c := c) (k := (j : Int) + 3) (L := 6) (by decide)
  generalize lawNum c ((j : Int) + 3) 6 = m at b
  refine ⟨⟨by omega, by omega⟩, ?_⟩
  refine forL_goN (fun n σ H' => H' = H ∧ ∃ t : Str, t.length + n ≤ 6 ∧ ∃ u10, σ = [w0, some (.int j), some (.int c), some (.ref p), w4, w5, w6, w7, w8, some (.str t), u10, w11]) ?_ ?_ (rngV 0 m.toNat) _ _ ?_ ?_
  · exact fun _ _ _ _ => True.intro
  · rintro σ H' ⟨rfl, t, ht, u10, rfl⟩
    exact by8_go nt hp hn hs (by omega) fun H2 a b d s2 n2 => h H2 _ _ _ _ _ s2 n2
  · rintro x hx n σ H' D' ⟨rfl, t, ht, u10, rfl⟩ hD
    obtain ⟨i, hi, rfl⟩ := List.mem_map.mp hx
    have hi' : i < m.toNat := List.mem_range.mp hi
    refine ⟨nt, outV_go (lawnum_at (c := c + (0 + (i : Int))) (k := (j : Int) + (0 + (i : Int))) (L := 7) (by omega) (by omega) (by decide) (by decide)) ?_⟩
    have b2 := lawNum_b (c := c + (0 + (i : Int))) (k := (j : Int) + (0 + (i : Int))) (L := 7) (by decide)
    generalize lawNum (c + (0 + (i : Int))) ((j : Int) + (0 + (i : Int))) 7 = m2 at b2
    obtain ⟨s, hs2⟩ := at_some (l := ("ivxcm9b" : Str).cps.toList) b2.1 (by have e : ("ivxcm9b" : Str).cps.toList.length = 7 := by decide +kernel
                                                                            rw [e]; omega)
    refine ⟨by decide +kernel, s, hs2, ?_, ?_⟩
    · exact Nat.le_trans (show t.length + 1 ≤ 100 by omega) (by decide)
    · refine hD _ _ ⟨rfl, t ++ ⟨#[s]⟩, ?_, _, rfl⟩
      rw [len_tl, tl_append, List.length_append, ← len_tl]
      show t.length + 1 + n ≤ 6
      omega
  · refine ⟨rfl, "", ?_, _, rfl⟩
    have e : (rngV 0 m.toNat).length = m.toNat := by unfold rngV; rw [List.length_map, List.length_range]
    rw [e]
    show 0 + m.toNat ≤ 6
    omega
theorem str3 {a b : Str} {n m : Nat} (ha : a.length ≤ n) (hb : b.length ≤ m) : (a ++ b).length ≤ n + m := by
  rw [len_tl, tl_append, List.length_append, ← len_tl, ← len_tl]
  omega
theorem mk_body {w0 w6 w7 w8 w9 w10 w11 : Option V} {p : Addr} {ts : List Str} {j n : Nat} {c : Int} {k : Str} {i : Nat} {D : Ends} {H : Hp} (nt : NoT H) (hj : j ≤ 20) (h1 : 1 ≤ n) (h2 : n ≤ 3099) (hk : kidx k = some i) (hi : ix i) (hp : H p = some (.lst (ts.map V.str))) (hn : ts.length ≤ 90) (hs : Shorts ts)
    (h : ∀ H' p' ts' u6 u7 u8, Same H H' → NoT H' → H' p' = some (.lst (ts'.map V.str)) → ts'.length = ts.length + 3 → Shorts ts' → D.nx [w0, some (.int j), some (.int c), some (.ref p'), some (.int n), some (.str k), u6, u7, u8, w9, w10, w11] H') :
    rdSs (Gx K aK aR) K bMk D [w0, some (.int j), some (.int c), some (.ref p), some (.int n), some (.str k), w6, w7, w8, w9, w10, w11] H := by
  have hl := len_ok hi h1 h2
  refine ⟨nt, outV_go (lnumeral_at hi h1 h2 hk) ?_⟩
  have hl' : (mk (numL i n)).length ≤ 14 := by rw [mk_len]; exact hl
  generalize mk (numL i n) = t at hl'
  have ht : t.length ≤ sizeLine := Nat.le_trans hl' (by decide)
  refine ⟨ht, nt, outV_go (lawnum_at (c := c) (k := (j : Int) + 1) (L := (t.length : Int) + 1) (by omega) (by omega) (by omega) (by omega)) ?_⟩
  generalize lawNum c ((j : Int) + 1) ((t.length : Int) + 1) = a
  refine ⟨nt, outV_go (lawnum_at (c := c) (k := (j : Int) + 2) (L := 13) (by omega) (by omega) (by decide) (by decide)) ?_⟩
  have b2 := lawNum_b (c := c) (k := (j : Int) + 2) (L := 13) (by decide)
  generalize lawNum c ((j : Int) + 2) 13 = m2 at b2
  obtain ⟨s, hs2⟩ := at_some (l := ("ivxlcdm0159az" : Str).cps.toList) b2.1 (by have e : ("ivxlcdm0159az" : Str).cps.toList.length = 13 := by decide +kernel
                                                                                rw [e]; omega)
  refine ⟨by decide +kernel, s, hs2, ?_⟩
  have c1 := cutS_length t none (some a)
  have c2 := cutS_length t (some a) none
  have c3 := cutS_length t (some (a + 1)) none
  have s1 : (⟨#[s]⟩ : Str).length ≤ 1 := Nat.le_refl 1
  have l1 : (cutS t none (some a) ++ ⟨#[s]⟩).length ≤ 14 + 1 := str3 (Nat.le_trans c1 hl') s1
  have l2 : (cutS t none (some a) ++ ⟨#[s]⟩ ++ cutS t (some a) none).length ≤ 14 + 1 + 14 := str3 l1 (Nat.le_trans c2 hl')
  have l3 : (cutS t none (some a) ++ cutS t (some (a + 1)) none).length ≤ 14 + 14 := str3 (Nat.le_trans c1 hl') (Nat.le_trans c3 hl')
  have l4 : (cutS t none (some a) ++ ⟨#[s]⟩ ++ cutS t (some (a + 1)) none).length ≤ 14 + 1 + 14 := str3 l1 (Nat.le_trans c3 hl')
  have big : ∀ n : Nat, n ≤ 100 → n ≤ sizeLine := fun n h => Nat.le_trans h (by decide)
  refine ⟨ht, big _ (by show (cutS t none (some a)).length + 1 ≤ 100; omega), ht, big _ (by omega), ?_⟩
  refine ⟨ht, ht, big _ (by omega), ?_⟩
  refine ⟨ht, big _ (by show (cutS t none (some a)).length + 1 ≤ 100; omega), ht, big _ (by omega), ?_⟩
  refine ⟨(show (3 : Nat) ≤ sizeLine by decide), fun q hq => ⟨ts.map V.str, _, (same_upd hq) p _ hp, upd_same, ?_, fun r hr => ?_⟩⟩
  · rw [List.length_map]
    exact big _ (by show ts.length + 3 ≤ 100; omega)
  refine h _ r (ts ++ [cutS t none (some a) ++ ⟨#[s]⟩ ++ cutS t (some a) none, cutS t none (some a) ++ cutS t (some (a + 1)) none, cutS t none (some a) ++ ⟨#[s]⟩ ++ cutS t (some (a + 1)) none]) _ _ _ (same_trans (same_upd hq) (same_upd hr)) ((nt.upd rfl).upd rfl) ?_ ?_ ?_
  · rw [upd_same, List.map_append]
    rfl
  · rw [List.length_append]
    rfl
  · refine shorts_app hs ?_
    intro y hy
    rcases List.mem_cons.mp hy with e | hy
    · rw [e]; omega
    rcases List.mem_cons.mp hy with e | hy
    · rw [e]; omega
    rcases List.mem_cons.mp hy with e | hy
    · rw [e]; omega
    · cases hy
theorem by5_go {w0 w5 w6 w7 w8 w9 w10 w11 : Option V} {p : Addr} {ts : List Str} {j n : Nat} {c : Int} {D : Ends} {H : Hp} (nt : NoT H) (hj : j ≤ 20) (h1 : 1 ≤ n) (h2 : n ≤ 3099) (hp : H p = some (.lst (ts.map V.str))) (hn : ts.length ≤ 50) (hs : Shorts ts)
    (h : ∀ H' u3 u5 u6 u7 u8 u9 u10 u11, Same H H' → NoT H' → D.nx [w0, some (.int j), some (.int c), u3, some (.int n), u5, u6, u7, u8, u9, u10, u11] H') :
    rdSs (Gx K aK aR) K bBy5 D [w0, some (.int j), some (.int c), some (.ref p), some (.int n), w5, w6, w7, w8, w9, w10, w11] H := by
  refine ⟨by decide, fun z hz => ⟨KV, ?_⟩⟩
  refine forL_goN (fun m σ H' => NoT H' ∧ Same (upd H z (.tup KV)) H' ∧ ∃ (p' : Addr) (ts' : List Str), H' p' = some (.lst (ts'.map V.str)) ∧ ts'.length + 3 * m ≤ 60 ∧ Shorts ts' ∧ ∃ u5 u6 u7 u8, σ = [w0, some (.int j), some (.int c), some (.ref p'), some (.int n), u5, u6, u7, u8, w9, w10, w11]) ?_ ?_ KV _ _ ?_ ?_
  · exact fun _ σ H' j => SqT.of (j.2.1 z _ upd_same)
  · rintro σ H' ⟨n', s', p', ts', hp', hn', hs', u5, u6, u7, u8, rfl⟩
    exact by6_go n' hj hp' (by omega) hs' fun H2 a b d e f s2 n2 => h H2 _ _ _ _ _ _ _ _ (same_trans (same_trans (same_upd hz) s') s2) n2
  · rintro x hx m σ H' D' ⟨n', s', p', ts', hp', hn', hs', u5, u6, u7, u8, rfl⟩ hD
    obtain ⟨k', i', rfl, hk', hi'⟩ := KV_at hx
    exact mk_body n' hj h1 h2 hk' hi' hp' (by omega) hs' fun H2 p2 ts2 a b d s2 n2 e2 l2 sh2 => hD _ _ ⟨n2, same_trans s' s2, p2, ts2, e2, by omega, sh2, _, _, _, _, rfl⟩
  · exact ⟨nt.upd rfl, Same.refl _, p, ts, (same_upd hz) p _ hp, (by show ts.length + 3 * 3 ≤ 60; omega), hs, _, _, _, _, rfl⟩
def T1 : List Str := ["", "0", "01", "3100", "a", "iiii", "vx", "ic", "mmmm", "mmmxcix", "cmcm", "xlx"]
def T2 : List Str := ["A", "1a", "edu", "edw", "doe", "dof", "mmmc", "1_0", "+7", " 7", "7 ", "-7", "1e3", "7\n"]
def T3 : List Str := ["a\n", "{", "`", "i\n", "a{", "`a"]
theorem T_short : Shorts (T1 ++ T2 ++ T3) := by
  have : ∀ t ∈ T1 ++ T2 ++ T3, t.length ≤ 100 := by decide +kernel
  exact this
theorem by_body {w2 w3 w4 w5 w6 w7 w8 w9 w10 w11 : Option V} {a : Addr} {ns : List Int} {j : Nat} {D : Ends} {H : Hp} (nt : NoT H) (ha : SqL K H a (ns.map V.int)) (hj : j ≤ 20)
    (h : ∀ H' u2 u3 u4 u5 u6 u7 u8 u9 u10 u11, Same H H' → NoT H' → D.nx [some (.ref a), some (.int j), u2, u3, u4, u5, u6, u7, u8, u9, u10, u11] H') :
    rdSs (Gx K aK aR) K bBy D [some (.ref a), some (.int j), w2, w3, w4, w5, w6, w7, w8, w9, w10, w11] H := by
  refine ⟨a, ns, j, rfl, ha, fun c => ?_⟩
  refine ⟨(show (12 : Nat) ≤ sizeLine by decide), fun p1 q1 => ⟨(show (14 : Nat) ≤ sizeLine by decide), fun p2 q2 => ?_⟩⟩
  refine ⟨T1.map V.str, T2.map V.str, (same_upd q2) p1 _ upd_same, upd_same, (show (26 : Nat) ≤ sizeLine by decide), fun p3 q3 => ?_⟩
  refine ⟨(show (6 : Nat) ≤ sizeLine by decide), fun p4 q4 => ?_⟩
  refine ⟨(T1 ++ T2).map V.str, T3.map V.str, (same_upd q4) p3 _ upd_same, upd_same, (show (32 : Nat) ≤ sizeLine by decide), fun p5 q5 => ?_⟩
  have S := same_trans (same_trans (same_trans (same_trans (same_upd q1) (same_upd q2)) (same_upd q3)) (same_upd q4)) (same_upd (o := .lst ((T1 ++ T2 ++ T3).map V.str)) q5)
  have n5 : NoT _ := ((((nt.upd (a := p1) (o := .lst (T1.map V.str)) rfl).upd (a := p2) (o := .lst (T2.map V.str)) rfl).upd (a := p3) (o := .lst ((T1 ++ T2).map V.str)) rfl).upd (a := p4) (o := .lst (T3.map V.str)) rfl).upd (a := p5) (o := .lst ((T1 ++ T2 ++ T3).map V.str)) rfl
  refine ⟨n5, outV_go (lawnum_at (c := c) (k := (j : Int)) (L := 3099) (by omega) (by omega) (by decide) (by decide)) ?_⟩
  have b := lawNum_b (c := c) (k := (j : Int)) (L := 3099) (by decide)
  generalize lawNum c (j : Int) 3099 = m at b
  obtain ⟨m', rfl⟩ := Int.eq_ofNat_of_zero_le b.1
  have e : (1 : Int) + ((m' : Nat) : Int) = ((1 + m' : Nat) : Int) := by omega
  have key := by5_go (K := K) (aK := aK) (aR := aR) (D := D) (w0 := some (.ref a)) (w5 := w5) (w6 := w6) (w7 := w7) (w8 := w8) (w9 := w9) (w10 := w10) (w11 := w11) (p := p5) (ts := T1 ++ T2 ++ T3) (j := j) (n := 1 + m') (c := c) n5 hj (by omega) (by omega) upd_same (by decide) T_short
    fun H2 u3 u5 u6 u7 u8 u9 u10 u11 s2 n2 => h H2 _ _ _ _ _ _ _ _ _ _ (same_trans S s2) n2
  rw [← e] at key
  exact key
theorem sg_mul {x : Str} (h : x.length = 1) (n : Nat) (h1 : 1 < n) (h2 : n ≤ 10000) : MulOk x (n : Int) ∧ (Txt.mul x (n : Int)).length = n := by
  refine ⟨⟨?_, ?_, ?_⟩, ?_⟩
  · rw [dec_false (by omega), dec_false (by omega)]
    rfl
  · intro _ _ z
    rw [h] at z
    have := Int.le_ediv_of_mul_le (a := 1) (b := 2 ^ 63 - 1) (c := (n : Int)) (by omega) (by omega)
    omega
  · intro _ _
    rw [h]
    rw [Int.toNat_natCast]
    refine decide_eq_false (p := 1 * n > sizeLine) fun z => ?_
    have : sizeLine = 16777216 := by decide
    omega
  · have := len_mul x (n : Int)
    rw [h, dec_false (show ¬ (n : Int) < 0 by omega)] at this
    simp at this
    omega
theorem rep_body {w0 w1 w2 w3 w4 w6 w7 w9 w10 w11 : Option V} {k x : Str} {i : Nat} {D : Ends} {H : Hp} (nt : NoT H) (hk : kidx k = some i) (hx : x.length = 1) (h4 : nofL i (tl (Txt.mul x 4)) = none)
    (h : D.nx [w0, w1, w2, w3, w4, some (.str k), w6, w7, some (.str x), w9, w10, w11] H) : rdSs (Gx K aK aR) K bRep D [w0, w1, w2, w3, w4, some (.str k), w6, w7, some (.str x), w9, w10, w11] H := by
  obtain ⟨o1, l1⟩ := sg_mul hx 5000 (by decide) (by decide)
  obtain ⟨o2, l2⟩ := sg_mul hx 4 (by decide) (by decide)
  refine ⟨o1, nt, outV_go (v := .non) ?_ ?_⟩
  · refine (numof_at (t := Txt.mul x 5000) ?_ hk).trans ?_
    · exact Nat.le_trans (Nat.le_of_eq l1) (by decide)
    · rw [nof_long (by rw [← len_tl]; exact Nat.lt_of_lt_of_eq (by decide) l1.symm)]
      rfl
  refine ⟨o2, nt, outV_go (v := .non) ?_ ?_⟩
  · refine (numof_at (t := Txt.mul x 4) ?_ hk).trans ?_
    · exact Nat.le_trans (Nat.le_of_eq l2) (by decide)
    · rw [h4]
      rfl
  exact h
theorem end_go {w0 w1 w2 w3 w4 w5 w6 w7 w8 w9 w10 w11 : Option V} {D : Ends} {H : Hp} (nt : NoT H) (q : ∀ H', D.rt (.bl true) H') : rdSs (Gx K aK aR) K bEnd D [w0, w1, w2, w3, w4, w5, w6, w7, w8, w9, w10, w11] H := by
  have two : (2 : Nat) ≤ sizeLine := by decide
  refine ⟨two, fun p1 q1 => ⟨two, fun p2 q2 => ⟨two, fun p3 q3 => ⟨(show (3 : Nat) ≤ sizeLine by decide), fun p4 q4 => ?_⟩⟩⟩⟩
  have s4 := same_upd (o := .tup [.ref p1, .ref p2, .ref p3]) q4
  have s3 := same_trans (same_upd (o := .tup [.str "roman", .str "m"]) q3) s4
  have s2 := same_trans (same_upd (o := .tup [.str "letters", .str "z"]) q2) s3
  have e1 := s2 p1 (.tup [.str "figures", .str "9"]) upd_same
  have e2 := s3 p2 (.tup [.str "letters", .str "z"]) upd_same
  have e3 := s4 p3 (.tup [.str "roman", .str "m"]) upd_same
  have n4 : NoT (upd (upd (upd (upd H p1 (.tup [.str "figures", .str "9"])) p2 (.tup [.str "letters", .str "z"])) p3 (.tup [.str "roman", .str "m"])) p4 (.tup [.ref p1, .ref p2, .ref p3])) := (((nt.upd rfl).upd rfl).upd rfl).upd rfl
  have e4 := @upd_same (upd (upd (upd H p1 (.tup [.str "figures", .str "9"])) p2 (.tup [.str "letters", .str "z"])) p3 (.tup [.str "roman", .str "m"])) p4 (.tup [.ref p1, .ref p2, .ref p3])
  refine ⟨[.ref p1, .ref p2, .ref p3], ?_⟩
  refine forL_go (fun σ H' => H' = upd (upd (upd (upd H p1 (.tup [.str "figures", .str "9"])) p2 (.tup [.str "letters", .str "z"])) p3 (.tup [.str "roman", .str "m"])) p4 (.tup [.ref p1, .ref p2, .ref p3]) ∧ ∃ u5 u8, σ = [w0, w1, w2, w3, w4, u5, w6, w7, u8, w9, w10, w11]) ?_ ?_ _ _ _ ?_ ⟨rfl, _, _, rfl⟩
  · rintro σ H' ⟨rfl, _⟩
    exact SqT.of e4
  · rintro σ H' ⟨rfl, u5, u8, rfl⟩
    refine ⟨n4, outV_go (v := .non) (by decide +kernel) ⟨n4, outV_go (v := .int 28) (by decide +kernel) ?_⟩⟩
    exact q _
  · rintro x hx σ H' D' ⟨rfl, u5, u8, rfl⟩ hD
    rcases List.mem_cons.mp hx with e | hx
    · rw [e]
      exact ⟨_, SqT.of e1, rep_body (i := 0) n4 (by decide +kernel) (by decide +kernel) (by decide +kernel) (hD _ _ ⟨rfl, _, _, rfl⟩)⟩
    rcases List.mem_cons.mp hx with e | hx
    · rw [e]
      exact ⟨_, SqT.of e2, rep_body (i := 1) n4 (by decide +kernel) (by decide +kernel) (by decide +kernel) (hD _ _ ⟨rfl, _, _, rfl⟩)⟩
    rcases List.mem_cons.mp hx with e | hx
    · rw [e]
      exact ⟨_, SqT.of e3, rep_body (i := 2) n4 (by decide +kernel) (by decide +kernel) (by decide +kernel) (hD _ _ ⟨rfl, _, _, rfl⟩)⟩
    · cases hx
theorem sqL_same {H H' : Hp} {a : Addr} {xs : List V} (h : SqL K H a xs) (s : Same H H') : SqL K H' a xs := by
  rcases h with (h | ⟨o, h⟩) | h
  · exact .inl (.inl (s _ _ h))
  · exact .inl (.inr ⟨o, s _ _ h⟩)
  · exact .inr h
theorem r_law {a : Addr} {ns : List Int} {H : Hp} {Q : VK} (nt : NoT H) (ha : SqL K H a (ns.map V.int)) (hl : ns.length ≤ 63) (h : ∀ H', Q (.bl true) H') :
    rdSs (Gx K aK aR) K B_law { nx := fun _ H' => Q .non H', rt := Q } (L2.start N_law [.ref a]) H := by
  refine ⟨ns.map V.int, .inl ha, ?_⟩
  have hb : ∀ L : Int, ∃ e : Int, (if (if L < 9 then L else 9) > 1 then (if L < 9 then L else 9) else 1) = e ∧ 1 ≤ e ∧ e ≤ 9 := fun L => ⟨_, rfl, by split <;> split <;> omega, by split <;> split <;> omega⟩
  obtain ⟨e, he, h1, h2⟩ := hb ((ns.map V.int).length : Int)
  have go : ∀ e : Int, 1 ≤ e → e ≤ 9 → (-(2 ^ 62) ≤ (0 : Int) ∧ (0 : Int) < 2 ^ 62 ∧ -(2 ^ 62) ≤ e ∧ e < 2 ^ 62) ∧ forL (fun _ => True) (rdG K (.nm 1)) (rdSs (Gx K aK aR) K bBy) (rngV 0 (e - 0).toNat) { nx := rdSs (Gx K aK aR) K bEnd { nx := fun _ H' => Q .non H', rt := Q }, rt := Q } [some (.ref a), none, none, none, none, none, none, none, none, none, none, none] H := by
    intro e h1 h2
    refine ⟨⟨by omega, by omega, by omega, by omega⟩, ?_⟩
    refine forL_go (fun σ H' => NoT H' ∧ Same H H' ∧ ∃ u1 u2 u3 u4 u5 u6 u7 u8 u9 u10 u11, σ = [some (.ref a), u1, u2, u3, u4, u5, u6, u7, u8, u9, u10, u11]) ?_ ?_ _ _ _ ?_ ⟨nt, Same.refl _, _, _, _, _, _, _, _, _, _, _, _, rfl⟩
    · exact fun _ _ _ => True.intro
    · rintro σ H' ⟨n', s', u1, u2, u3, u4, u5, u6, u7, u8, u9, u10, u11, rfl⟩
      exact end_go n' h
    · rintro x hx σ H' D' ⟨n', s', u1, u2, u3, u4, u5, u6, u7, u8, u9, u10, u11, rfl⟩ hD
      obtain ⟨i, hi, rfl⟩ := List.mem_map.mp hx
      have hi' : i < (e - 0).toNat := List.mem_range.mp hi
      have z : (0 : Int) + (i : Int) = ((i : Nat) : Int) := by omega
      show rdSs (Gx K aK aR) K bBy D' [some (.ref a), some (.int (0 + (i : Int))), u2, u3, u4, u5, u6, u7, u8, u9, u10, u11] H'
      rw [z]
      exact by_body n' (sqL_same ha s') (by omega) fun H2 _ _ _ _ _ _ _ _ _ _ s2 n2 => hD _ _ ⟨n2, same_trans s' s2, _, _, _, _, _, _, _, _, _, _, _, rfl⟩
  have := go e h1 h2
  rw [← he] at this
  exact this
end
end K1

end

section
set_option Elab.async false
set_option linter.all false
set_option maxRecDepth 100000
namespace K1
open PySem PySem.Spec PyProof.Rows L2 EV TL
/-- a def's reading for the values of its mirror -/
abbrev Rdy (Γ : Gm) (K : PySem.W.Frag) (B : Sxs) (np : Nat) (M : List V → Option V) : Prop :=
  ∀ (vs : List V) (H : Hp) (v : V) (Q : VK), NoT H → M vs = some v → (∀ H', Same H H' → Q v H') → vs.length = np ∧ rdSs Γ K B { nx := fun _ H' => Q .non H', rt := Q } (L2.start Γ.N vs) H
theorem map_some {k : Str} {f : Nat → V} {v : V} (h : (kidx k).map f = some v) : ∃ i, kidx k = some i ∧ f i = v := by
  cases e : kidx k with
  | none => rw [e] at h; cases h
  | some i => rw [e] at h; exact ⟨i, rfl, Option.some.inj h⟩
section
variable {fn : List (Str × Sp)} {aK aR : Addr} {K : PySem.W.Frag} {rs : List (Addr × List Nat × Nat)}
theorem p_is_kind (T : Tabs K aK aR rs) : Rdy ⟨N_is_kind, fn, gl aK aR, bl⟩ K B_is_kind 1 isKindM := by
  intro vs H v Q nt e h
  unfold isKindM at e
  split at e
  · cases (Option.some.inj e)
    exact ⟨rfl, r_is_kind (T.k H) (h H (Same.refl H))⟩
  · cases e
theorem p_check_kind : Rdy ⟨N_check_kind, [("is_kind", spP isKindM)], gl aK aR, bl⟩ K B_check_kind 1 checkKindM := by
  intro vs H v Q nt e h
  unfold checkKindM at e
  split at e
  · split at e
    · rename_i hx
      cases (Option.some.inj e)
      exact ⟨rfl, r_check_kind nt hx (h H (Same.refl H))⟩
    · cases e
  · cases e
theorem p_is_number : Rdy ⟨N_is_number, fn, gl aK aR, bl⟩ K B_is_number 3 isNumberM := by
  intro vs H v Q nt e h
  unfold isNumberM at e
  split at e
  · cases (Option.some.inj e)
    exact ⟨rfl, r_is_number (h H (Same.refl H))⟩
  · cases e
theorem p_in_roman (T : Tabs K aK aR rs) : Rdy ⟨N_in_roman, fn, gl aK aR, bl⟩ K B_in_roman 1 inRomanM := by
  intro vs H v Q nt e h
  unfold inRomanM at e
  split at e
  · rename_i n
    split at e
    · rename_i hn
      cases (Option.some.inj e)
      obtain ⟨m, rfl⟩ := Int.eq_ofNat_of_zero_le (show 0 ≤ n by omega)
      have := h H (Same.refl H)
      exact ⟨rfl, r_in_roman T (n := m) (by omega) (by omega) this⟩
    · cases e
  · cases e
theorem p_in_letters : Rdy ⟨N_in_letters, fn, gl aK aR, bl⟩ K B_in_letters 1 inLettersM := by
  intro vs H v Q nt e h
  unfold inLettersM at e
  split at e
  · rename_i n
    split at e
    · rename_i hn
      cases (Option.some.inj e)
      obtain ⟨m, rfl⟩ := Int.eq_ofNat_of_zero_le (show 0 ≤ n by omega)
      have := h H (Same.refl H)
      exact ⟨rfl, r_in_letters (n := m) (by omega) this⟩
    · cases e
  · cases e
theorem p_numeral : Rdy ⟨N_numeral, F5, gl aK aR, bl⟩ K B_numeral 2 numeralM := by
  intro vs H v Q nt e h
  unfold numeralM at e
  split at e
  · rename_i n k
    split at e
    · rename_i hn
      obtain ⟨i, hk, rfl⟩ := map_some e
      obtain ⟨m, rfl⟩ := Int.eq_ofNat_of_zero_le (show 0 ≤ n by omega)
      have := h H (Same.refl H)
      exact ⟨rfl, r_numeral (n := m) nt (by omega) (by omega) hk this⟩
    · cases e
  · cases e
theorem p_guess_places : Rdy ⟨N_guess_places, fn, gl aK aR, bl⟩ K B_guess_places 3 guessPlacesM := by
  intro vs H v Q nt e h
  unfold guessPlacesM at e
  split at e
  · split at e
    · rename_i hx
      cases (Option.some.inj e)
      exact ⟨rfl, r_guess_places hx (h H (Same.refl H))⟩
    · cases e
  · cases e
theorem p_guess_roman (T : Tabs K aK aR rs) : Rdy ⟨N_guess_roman, fn, gl aK aR, bl⟩ K B_guess_roman 1 guessRomanM := by
  intro vs H v Q nt e h
  unfold guessRomanM at e
  split at e
  · split at e
    · rename_i hx
      cases (Option.some.inj e)
      exact ⟨rfl, r_guess_roman T hx (h H (Same.refl H))⟩
    · cases e
  · cases e
theorem p_guess : Rdy ⟨N_guess, F8, gl aK aR, bl⟩ K B_guess 2 guessM := by
  intro vs H v Q nt e h
  unfold guessM at e
  split at e
  · split at e
    · rename_i hx
      obtain ⟨i, hk, rfl⟩ := map_some e
      exact ⟨rfl, r_guess nt hx hk (h H (Same.refl H))⟩
    · cases e
  · cases e
theorem p_number_of : Rdy ⟨N_number_of, F9, gl aK aR, bl⟩ K B_number_of 2 numberOfM := by
  intro vs H v Q nt e h
  unfold numberOfM at e
  split at e
  · split at e
    · rename_i hx
      obtain ⟨i, hk, rfl⟩ := map_some e
      exact ⟨rfl, r_number_of nt hx hk (h H (Same.refl H))⟩
    · cases e
  · cases e
theorem p__law_draw : Rdy ⟨N__law_draw, fn, gl aK aR, bl⟩ K B__law_draw 3 lawDrawM := by
  intro vs H v Q nt e h
  unfold lawDrawM at e
  split at e
  · split at e
    · rename_i hx
      cases (Option.some.inj e)
      exact ⟨rfl, r_law_draw hx h⟩
    · cases e
  · cases e
theorem p__law_number : Rdy ⟨N__law_number, F11, gl aK aR, bl⟩ K B__law_number 3 lawNumM := by
  intro vs H v Q nt e h
  unfold lawNumM at e
  split at e
  · split at e
    · rename_i hx
      cases (Option.some.inj e)
      exact ⟨rfl, r_law_number nt hx.1 hx.2.1 hx.2.2.1 hx.2.2.2 h⟩
    · cases e
  · cases e
theorem p__law_pow : Rdy ⟨N__law_pow, fn, gl aK aR, bl⟩ K B__law_pow 1 lawPowM := by
  intro vs H v Q nt e h
  unfold lawPowM at e
  split at e
  · split at e
    · rename_i hx
      cases (Option.some.inj e)
      exact ⟨rfl, r_law_pow hx.1 hx.2 (h H (Same.refl H))⟩
    · cases e
  · cases e
theorem p__law_numeral : Rdy ⟨N__law_numeral, F13, gl aK aR, bl⟩ K B__law_numeral 2 lawNumeralM := by
  intro vs H v Q nt e h
  unfold lawNumeralM at e
  split at e
  · rename_i n k
    split at e
    · rename_i hn
      obtain ⟨i, hk, rfl⟩ := map_some e
      obtain ⟨m, rfl⟩ := Int.eq_ofNat_of_zero_le (show 0 ≤ n by omega)
      exact ⟨rfl, r_law_numeral (n := m) nt (by omega) (by omega) hk h⟩
    · cases e
  · cases e
theorem p__law_whole : Rdy ⟨N__law_whole, fn, gl aK aR, bl⟩ K B__law_whole 1 lawWholeM := by
  intro vs H v Q nt e h
  unfold lawWholeM at e
  split at e
  · cases (Option.some.inj e)
    exact ⟨rfl, r_law_whole_i (h H (Same.refl H))⟩
  · cases (Option.some.inj e)
    exact ⟨rfl, r_law_whole_n (h H (Same.refl H))⟩
  · cases e
theorem p__law_value : Rdy (Gv aK aR) K B__law_value 2 lawValueM := by
  intro vs H v Q nt e h
  unfold lawValueM at e
  split at e
  · split at e
    · rename_i hx
      obtain ⟨i, hk, rfl⟩ := map_some e
      exact ⟨rfl, r_law_value nt hx hk h⟩
    · cases e
  · cases e
end
end K1

end

section
set_option Elab.async false
set_option linter.all false
set_option maxRecDepth 100000
namespace K1
open PySem PySem.Spec PyProof.Rows L2 EV TL
section
variable {P : Program} {w : World} {K : PySem.W.Frag} {mg : Str → Option Value} {base : Heap}
theorem def_ok {fn : List (Str × Sp)} {gl : List (Str × V)} {bl : List Str} {k np : Nat} {x qual : Str} {st : Stmt} {f : Addr} {fd : FuncData} {N ps : List Str} {B : Sxs} {M : List V → Option V} (T : Tb fn gl bl P w K mg base k) (F : Fun K x qual st f fd) (S : FnScope N ps (defScope st))
    (hm : mSs (mS ⟨N, fn, gl, bl⟩ true 40 (defScope st)) B (defBody st) = true) (hnp : ps.length = np) (R : Rdy ⟨N, fn, gl, bl⟩ K B np M) (hmg : mg x = some (.ref f)) (hb : Binds K fd ps []) : Tb (fn ++ [(x, spP M)]) gl bl P w K mg base (k + 1) :=
  T.snoc (pure_fn (fn_ev (sp := fun vs H Q _ => vs.length = np ∧ rdSs ⟨N, fn, gl, bl⟩ K B { nx := fun _ H' => Q .non H', rt := Q } (L2.start N vs) H) T F S B hm (fun _ _ _ _ h => h.1.trans hnp.symm) (fun _ _ _ _ h => h.2))
    fun vs H v Q E nt e h => R vs H v Q nt e h) hmg F.kp hb
end
theorem sc_is_kind : FnScope N_is_kind ["value"] (defScope s_is_kind) := ⟨rfl, rfl, rfl, by decide +kernel, rfl, by decide +kernel, by decide +kernel⟩
theorem sc_check_kind : FnScope N_check_kind ["value"] (defScope s_check_kind) := ⟨rfl, rfl, rfl, by decide +kernel, rfl, by decide +kernel, by decide +kernel⟩
theorem sc_in_roman : FnScope N_in_roman ["number"] (defScope s_in_roman) := ⟨rfl, rfl, rfl, by decide +kernel, rfl, by decide +kernel, by decide +kernel⟩
theorem sc_is_number : FnScope N_is_number ["value", "low", "high"] (defScope s_is_number) := ⟨rfl, rfl, rfl, by decide +kernel, rfl, by decide +kernel, by decide +kernel⟩
theorem sc_in_letters : FnScope N_in_letters ["number"] (defScope s_in_letters) := ⟨rfl, rfl, rfl, by decide +kernel, rfl, by decide +kernel, by decide +kernel⟩
theorem sc_numeral : FnScope N_numeral ["number", "kind"] (defScope s_numeral) := ⟨rfl, rfl, rfl, by decide +kernel, rfl, by decide +kernel, by decide +kernel⟩
theorem sc_guess_roman : FnScope N_guess_roman ["text"] (defScope s_guess_roman) := ⟨rfl, rfl, rfl, by decide +kernel, rfl, by decide +kernel, by decide +kernel⟩
theorem sc_guess_places : FnScope N_guess_places ["text", "signs", "lowest"] (defScope s_guess_places) := ⟨rfl, rfl, rfl, by decide +kernel, rfl, by decide +kernel, by decide +kernel⟩
theorem sc_guess : FnScope N_guess ["text", "kind"] (defScope s_guess) := ⟨rfl, rfl, rfl, by decide +kernel, rfl, by decide +kernel, by decide +kernel⟩
theorem sc_number_of : FnScope N_number_of ["text", "kind"] (defScope s_number_of) := ⟨rfl, rfl, rfl, by decide +kernel, rfl, by decide +kernel, by decide +kernel⟩
theorem sc__law_draw : FnScope N__law_draw ["_law_cell", "_law_k", "_law_most"] (defScope s__law_draw) := ⟨rfl, rfl, rfl, by decide +kernel, rfl, by decide +kernel, by decide +kernel⟩
theorem sc__law_number : FnScope N__law_number ["_law_cell", "_law_k", "_law_limit"] (defScope s__law_number) := ⟨rfl, rfl, rfl, by decide +kernel, rfl, by decide +kernel, by decide +kernel⟩
theorem sc__law_pow : FnScope N__law_pow ["_law_many"] (defScope s__law_pow) := ⟨rfl, rfl, rfl, by decide +kernel, rfl, by decide +kernel, by decide +kernel⟩
theorem sc__law_numeral : FnScope N__law_numeral ["_law_number_here", "_law_kind"] (defScope s__law_numeral) := ⟨rfl, rfl, rfl, by decide +kernel, rfl, by decide +kernel, by decide +kernel⟩
theorem sc__law_whole : FnScope N__law_whole ["_law_found"] (defScope s__law_whole) := ⟨rfl, rfl, rfl, by decide +kernel, rfl, by decide +kernel, by decide +kernel⟩
theorem sc__law_value : FnScope N__law_value ["_law_text", "_law_kind"] (defScope s__law_value) := ⟨rfl, rfl, rfl, by decide +kernel, rfl, by decide +kernel, by decide +kernel⟩
theorem sc__law_cell_at : FnScope N__law_cell_at ["_law_script", "_law_k"] (defScope s__law_cell_at) := ⟨rfl, rfl, rfl, by decide +kernel, rfl, by decide +kernel, by decide +kernel⟩
theorem sc_law : FnScope N_law ["_law_script"] (defScope s_law) := ⟨rfl, rfl, rfl, by decide +kernel, rfl, by decide +kernel, by decide +kernel⟩
abbrev A1 : List (Str × Sp) := [("is_kind", spP isKindM)]
abbrev A2 : List (Str × Sp) := [("is_kind", spP isKindM), ("check_kind", spP checkKindM)]
abbrev A3 : List (Str × Sp) := [("is_kind", spP isKindM), ("check_kind", spP checkKindM), ("in_roman", spP inRomanM)]
abbrev A4 : List (Str × Sp) := [("is_kind", spP isKindM), ("check_kind", spP checkKindM), ("in_roman", spP inRomanM), ("is_number", spP isNumberM)]
abbrev A5 : List (Str × Sp) := [("is_kind", spP isKindM), ("check_kind", spP checkKindM), ("in_roman", spP inRomanM), ("is_number", spP isNumberM), ("in_letters", spP inLettersM)]
abbrev A6 : List (Str × Sp) := [("is_kind", spP isKindM), ("check_kind", spP checkKindM), ("in_roman", spP inRomanM), ("is_number", spP isNumberM), ("in_letters", spP inLettersM), ("numeral", spP numeralM)]
abbrev A7 : List (Str × Sp) := [("is_kind", spP isKindM), ("check_kind", spP checkKindM), ("in_roman", spP inRomanM), ("is_number", spP isNumberM), ("in_letters", spP inLettersM), ("numeral", spP numeralM), ("guess_roman", spP guessRomanM)]
abbrev A8 : List (Str × Sp) := [("is_kind", spP isKindM), ("check_kind", spP checkKindM), ("in_roman", spP inRomanM), ("is_number", spP isNumberM), ("in_letters", spP inLettersM), ("numeral", spP numeralM), ("guess_roman", spP guessRomanM), ("guess_places", spP guessPlacesM)]
abbrev A9 : List (Str × Sp) := [("is_kind", spP isKindM), ("check_kind", spP checkKindM), ("in_roman", spP inRomanM), ("is_number", spP isNumberM), ("in_letters", spP inLettersM), ("numeral", spP numeralM), ("guess_roman", spP guessRomanM), ("guess_places", spP guessPlacesM), ("guess", spP guessM)]
abbrev A10 : List (Str × Sp) := [("is_kind", spP isKindM), ("check_kind", spP checkKindM), ("in_roman", spP inRomanM), ("is_number", spP isNumberM), ("in_letters", spP inLettersM), ("numeral", spP numeralM), ("guess_roman", spP guessRomanM), ("guess_places", spP guessPlacesM), ("guess", spP guessM), ("number_of", spP numberOfM)]
abbrev A11 : List (Str × Sp) := [("is_kind", spP isKindM), ("check_kind", spP checkKindM), ("in_roman", spP inRomanM), ("is_number", spP isNumberM), ("in_letters", spP inLettersM), ("numeral", spP numeralM), ("guess_roman", spP guessRomanM), ("guess_places", spP guessPlacesM), ("guess", spP guessM), ("number_of", spP numberOfM), ("_law_draw", spP lawDrawM)]
abbrev A12 : List (Str × Sp) := [("is_kind", spP isKindM), ("check_kind", spP checkKindM), ("in_roman", spP inRomanM), ("is_number", spP isNumberM), ("in_letters", spP inLettersM), ("numeral", spP numeralM), ("guess_roman", spP guessRomanM), ("guess_places", spP guessPlacesM), ("guess", spP guessM), ("number_of", spP numberOfM), ("_law_draw", spP lawDrawM), ("_law_number", spP lawNumM)]
abbrev A13 : List (Str × Sp) := [("is_kind", spP isKindM), ("check_kind", spP checkKindM), ("in_roman", spP inRomanM), ("is_number", spP isNumberM), ("in_letters", spP inLettersM), ("numeral", spP numeralM), ("guess_roman", spP guessRomanM), ("guess_places", spP guessPlacesM), ("guess", spP guessM), ("number_of", spP numberOfM), ("_law_draw", spP lawDrawM), ("_law_number", spP lawNumM), ("_law_pow", spP lawPowM)]
abbrev A14 : List (Str × Sp) := [("is_kind", spP isKindM), ("check_kind", spP checkKindM), ("in_roman", spP inRomanM), ("is_number", spP isNumberM), ("in_letters", spP inLettersM), ("numeral", spP numeralM), ("guess_roman", spP guessRomanM), ("guess_places", spP guessPlacesM), ("guess", spP guessM), ("number_of", spP numberOfM), ("_law_draw", spP lawDrawM), ("_law_number", spP lawNumM), ("_law_pow", spP lawPowM), ("_law_numeral", spP lawNumeralM)]
abbrev A15 : List (Str × Sp) := [("is_kind", spP isKindM), ("check_kind", spP checkKindM), ("in_roman", spP inRomanM), ("is_number", spP isNumberM), ("in_letters", spP inLettersM), ("numeral", spP numeralM), ("guess_roman", spP guessRomanM), ("guess_places", spP guessPlacesM), ("guess", spP guessM), ("number_of", spP numberOfM), ("_law_draw", spP lawDrawM), ("_law_number", spP lawNumM), ("_law_pow", spP lawPowM), ("_law_numeral", spP lawNumeralM), ("_law_whole", spP lawWholeM)]
abbrev A16 : List (Str × Sp) := [("is_kind", spP isKindM), ("check_kind", spP checkKindM), ("in_roman", spP inRomanM), ("is_number", spP isNumberM), ("in_letters", spP inLettersM), ("numeral", spP numeralM), ("guess_roman", spP guessRomanM), ("guess_places", spP guessPlacesM), ("guess", spP guessM), ("number_of", spP numberOfM), ("_law_draw", spP lawDrawM), ("_law_number", spP lawNumM), ("_law_pow", spP lawPowM), ("_law_numeral", spP lawNumeralM), ("_law_whole", spP lawWholeM), ("_law_value", spP lawValueM)]
abbrev A17 (K : PySem.W.Frag) : List (Str × Sp) := [("is_kind", spP isKindM), ("check_kind", spP checkKindM), ("in_roman", spP inRomanM), ("is_number", spP isNumberM), ("in_letters", spP inLettersM), ("numeral", spP numeralM), ("guess_roman", spP guessRomanM), ("guess_places", spP guessPlacesM), ("guess", spP guessM), ("number_of", spP numberOfM), ("_law_draw", spP lawDrawM), ("_law_number", spP lawNumM), ("_law_pow", spP lawPowM), ("_law_numeral", spP lawNumeralM), ("_law_whole", spP lawWholeM), ("_law_value", spP lawValueM), ("_law_cell_at", spCell K)]
def spLaw (K : PySem.W.Frag) : Sp := fun vs H Q _ => ∃ (a : Addr) (ns : List Int), vs = [.ref a] ∧ SqL K H a (ns.map V.int) ∧ ns.length ≤ 63 ∧ NoT H ∧ ∀ H', Q (.bl true) H'
section
variable {P : Program} {w : World} {K : PySem.W.Frag} {mg : Str → Option Value} {base : Heap} {aK aR : Addr} {rs : List (Addr × List Nat × Nat)}
theorem chain (T : Tabs K aK aR rs) (T0 : Tb [] (gl aK aR) bl P w K mg base 0)
    {f0 : Addr} {d0 : FuncData} (F0 : Fun K "is_kind" "is_kind" s_is_kind f0 d0) (m0 : mg "is_kind" = some (.ref f0)) (b0 : Binds K d0 ["value"] [])
    {f1 : Addr} {d1 : FuncData} (F1 : Fun K "check_kind" "check_kind" s_check_kind f1 d1) (m1 : mg "check_kind" = some (.ref f1)) (b1 : Binds K d1 ["value"] [])
    {f2 : Addr} {d2 : FuncData} (F2 : Fun K "in_roman" "in_roman" s_in_roman f2 d2) (m2 : mg "in_roman" = some (.ref f2)) (b2 : Binds K d2 ["number"] [])
    {f3 : Addr} {d3 : FuncData} (F3 : Fun K "is_number" "is_number" s_is_number f3 d3) (m3 : mg "is_number" = some (.ref f3)) (b3 : Binds K d3 ["value", "low", "high"] [])
    {f4 : Addr} {d4 : FuncData} (F4 : Fun K "in_letters" "in_letters" s_in_letters f4 d4) (m4 : mg "in_letters" = some (.ref f4)) (b4 : Binds K d4 ["number"] [])
    {f5 : Addr} {d5 : FuncData} (F5 : Fun K "numeral" "numeral" s_numeral f5 d5) (m5 : mg "numeral" = some (.ref f5)) (b5 : Binds K d5 ["number", "kind"] [])
    {f6 : Addr} {d6 : FuncData} (F6 : Fun K "guess_roman" "guess_roman" s_guess_roman f6 d6) (m6 : mg "guess_roman" = some (.ref f6)) (b6 : Binds K d6 ["text"] [])
    {f7 : Addr} {d7 : FuncData} (F7 : Fun K "guess_places" "guess_places" s_guess_places f7 d7) (m7 : mg "guess_places" = some (.ref f7)) (b7 : Binds K d7 ["text", "signs", "lowest"] [])
    {f8 : Addr} {d8 : FuncData} (F8 : Fun K "guess" "guess" s_guess f8 d8) (m8 : mg "guess" = some (.ref f8)) (b8 : Binds K d8 ["text", "kind"] [])
    {f9 : Addr} {d9 : FuncData} (F9 : Fun K "number_of" "number_of" s_number_of f9 d9) (m9 : mg "number_of" = some (.ref f9)) (b9 : Binds K d9 ["text", "kind"] [])
    {f10 : Addr} {d10 : FuncData} (F10 : Fun K "_law_draw" "_law_draw" s__law_draw f10 d10) (m10 : mg "_law_draw" = some (.ref f10)) (b10 : Binds K d10 ["_law_cell", "_law_k", "_law_most"] [])
    {f11 : Addr} {d11 : FuncData} (F11 : Fun K "_law_number" "_law_number" s__law_number f11 d11) (m11 : mg "_law_number" = some (.ref f11)) (b11 : Binds K d11 ["_law_cell", "_law_k", "_law_limit"] [])
    {f12 : Addr} {d12 : FuncData} (F12 : Fun K "_law_pow" "_law_pow" s__law_pow f12 d12) (m12 : mg "_law_pow" = some (.ref f12)) (b12 : Binds K d12 ["_law_many"] [])
    {f13 : Addr} {d13 : FuncData} (F13 : Fun K "_law_numeral" "_law_numeral" s__law_numeral f13 d13) (m13 : mg "_law_numeral" = some (.ref f13)) (b13 : Binds K d13 ["_law_number_here", "_law_kind"] [])
    {f14 : Addr} {d14 : FuncData} (F14 : Fun K "_law_whole" "_law_whole" s__law_whole f14 d14) (m14 : mg "_law_whole" = some (.ref f14)) (b14 : Binds K d14 ["_law_found"] [])
    {f15 : Addr} {d15 : FuncData} (F15 : Fun K "_law_value" "_law_value" s__law_value f15 d15) (m15 : mg "_law_value" = some (.ref f15)) (b15 : Binds K d15 ["_law_text", "_law_kind"] [])
    {f16 : Addr} {d16 : FuncData} (F16 : Fun K "_law_cell_at" "_law_cell_at" s__law_cell_at f16 d16) (m16 : mg "_law_cell_at" = some (.ref f16)) (b16 : Binds K d16 ["_law_script", "_law_k"] [])
    {f17 : Addr} {d17 : FuncData} (F17 : Fun K "law" "law" s_law f17 d17) (m17 : mg "law" = some (.ref f17))
    : FnOk P w K mg base CX0 18 f17 d17 ["_law_script"] (spLaw K) := by
  have T1 : Tb A1 (gl aK aR) bl P w K mg base 1 := def_ok T0 F0 sc_is_kind c_is_kind rfl (p_is_kind T) m0 b0
  have T2 : Tb A2 (gl aK aR) bl P w K mg base 2 := def_ok T1 F1 sc_check_kind c_check_kind rfl p_check_kind m1 b1
  have T3 : Tb A3 (gl aK aR) bl P w K mg base 3 := def_ok T2 F2 sc_in_roman c_in_roman rfl (p_in_roman T) m2 b2
  have T4 : Tb A4 (gl aK aR) bl P w K mg base 4 := def_ok T3 F3 sc_is_number c_is_number rfl p_is_number m3 b3
  have T5 : Tb A5 (gl aK aR) bl P w K mg base 5 := def_ok T4 F4 sc_in_letters c_in_letters rfl p_in_letters m4 b4
  have T6 : Tb A6 (gl aK aR) bl P w K mg base 6 := def_ok T5 F5 sc_numeral c_numeral rfl p_numeral m5 b5
  have T7 : Tb A7 (gl aK aR) bl P w K mg base 7 := def_ok T6 F6 sc_guess_roman c_guess_roman rfl (p_guess_roman T) m6 b6
  have T8 : Tb A8 (gl aK aR) bl P w K mg base 8 := def_ok T7 F7 sc_guess_places c_guess_places rfl p_guess_places m7 b7
  have T9 : Tb A9 (gl aK aR) bl P w K mg base 9 := def_ok T8 F8 sc_guess c_guess rfl p_guess m8 b8
  have T10 : Tb A10 (gl aK aR) bl P w K mg base 10 := def_ok T9 F9 sc_number_of c_number_of rfl p_number_of m9 b9
  have T11 : Tb A11 (gl aK aR) bl P w K mg base 11 := def_ok T10 F10 sc__law_draw c__law_draw rfl p__law_draw m10 b10
  have T12 : Tb A12 (gl aK aR) bl P w K mg base 12 := def_ok T11 F11 sc__law_number c__law_number rfl p__law_number m11 b11
  have T13 : Tb A13 (gl aK aR) bl P w K mg base 13 := def_ok T12 F12 sc__law_pow c__law_pow rfl p__law_pow m12 b12
  have T14 : Tb A14 (gl aK aR) bl P w K mg base 14 := def_ok T13 F13 sc__law_numeral c__law_numeral rfl p__law_numeral m13 b13
  have T15 : Tb A15 (gl aK aR) bl P w K mg base 15 := def_ok T14 F14 sc__law_whole c__law_whole rfl p__law_whole m14 b14
  have T16 : Tb A16 (gl aK aR) bl P w K mg base 16 := def_ok T15 F15 sc__law_value c__law_value rfl p__law_value m15 b15
  have C16 : FnOk P w K mg base CX0 17 f16 d16 ["_law_script", "_law_k"] (spCell K) := by
    refine fn_ev T16 F16 sc__law_cell_at B__law_cell_at c__law_cell_at ?_ ?_
    · rintro vs H Q E ⟨a, ns, k, rfl, _⟩
      rfl
    · rintro vs H Q E ⟨a, ns, k, rfl, ha, h⟩
      exact r_cell ha h
  have T17 : Tb (A17 K) (gl aK aR) bl P w K mg base 17 := T16.snoc C16 m16 F16.kp b16
  refine fn_ev T17 F17 sc_law B_law c_law ?_ ?_
  · rintro vs H Q E ⟨a, ns, rfl, _⟩
    rfl
  · rintro vs H Q E ⟨a, ns, rfl, ha, hl, nt, h⟩
    exact r_law nt ha hl h
end
theorem tup_in {K : PySem.W.Frag} {H : Hp} {a : Addr} {od : Option Addr} {its : Array Value} {n : Nat} {sl : Array (Option Value)} {xs : List V} (h : K.lookup a = some ⟨.type "tuple", od, .seq its n, sl⟩) (hs : its.size ≤ sizeLine) (hv : Vals xs its.toList) : SqT K H a xs :=
  .inr ⟨_, its, n, h, rfl, rfl, hs, hv⟩
theorem row_in {K : PySem.W.Frag} {H : Hp} {a : Addr} {od : Option Addr} {n : Nat} {sl : Array (Option Value)} {x : Str} {z : Int} {t u : Tok} (h : K.lookup a = some ⟨.type "tuple", od, .seq #[.str x t, .int z u] n, sl⟩) : SqT K H a [.str x, .int z] :=
  tup_in h (show (2 : Nat) ≤ sizeLine by decide) (.cons ⟨t, rfl⟩ (.cons ⟨u, rfl⟩ .nil))
theorem row_at {K : PySem.W.Frag} {H : Hp} {a : Addr} {od : Option Addr} {n : Nat} {sl : Array (Option Value)} {x : Str} {z : Nat} {t u : Tok} {l : List Nat} (e : x = mk l) (h : K.lookup a = some ⟨.type "tuple", od, .seq #[.str x t, .int z u] n, sl⟩) : SqT K H a [.str (mk l), .int z] := by
  rw [← e]
  exact row_in h
set_option maxHeartbeats 4000000 in
theorem all_mk {l : PySem.W.OpenLaw} {w : World} {K : PySem.W.Frag} {h : Heap} {mg : Str → Option Value} {fa : Addr} (X : K.In h) (G : h.Ns mainGlobals mg) (hfa : mg "law" = some (.ref fa))
    {f0 : Addr} {od0 an0 : Option Addr} {sl0 : Array (Option Value)} {oc0 kV0 dc0 pm0 cd0 ct0 : Value} (a0 : PySem.W.nsIn K mainGlobals "is_kind" = some (some (.ref f0))) (l0 : K.lookup f0 = some ⟨oc0, od0, .func (PySem.W.fnOf "is_kind" "is_kind" (defArgs s_is_kind) (defBody s_is_kind) (defScope s_is_kind) .none kV0 dc0 pm0 an0 cd0 ct0), sl0⟩) (c0 : PySem.W.codeIn K cd0 "is_kind" = true) (k0 : PySem.W.keepIn K (.ref f0) = true)
    {f1 : Addr} {od1 an1 : Option Addr} {sl1 : Array (Option Value)} {oc1 kV1 dc1 pm1 cd1 ct1 : Value} (a1 : PySem.W.nsIn K mainGlobals "check_kind" = some (some (.ref f1))) (l1 : K.lookup f1 = some ⟨oc1, od1, .func (PySem.W.fnOf "check_kind" "check_kind" (defArgs s_check_kind) (defBody s_check_kind) (defScope s_check_kind) .none kV1 dc1 pm1 an1 cd1 ct1), sl1⟩) (c1 : PySem.W.codeIn K cd1 "check_kind" = true) (k1 : PySem.W.keepIn K (.ref f1) = true)
    {f2 : Addr} {od2 an2 : Option Addr} {sl2 : Array (Option Value)} {oc2 kV2 dc2 pm2 cd2 ct2 : Value} (a2 : PySem.W.nsIn K mainGlobals "in_roman" = some (some (.ref f2))) (l2 : K.lookup f2 = some ⟨oc2, od2, .func (PySem.W.fnOf "in_roman" "in_roman" (defArgs s_in_roman) (defBody s_in_roman) (defScope s_in_roman) .none kV2 dc2 pm2 an2 cd2 ct2), sl2⟩) (c2 : PySem.W.codeIn K cd2 "in_roman" = true) (k2 : PySem.W.keepIn K (.ref f2) = true)
    {f3 : Addr} {od3 an3 : Option Addr} {sl3 : Array (Option Value)} {oc3 kV3 dc3 pm3 cd3 ct3 : Value} (a3 : PySem.W.nsIn K mainGlobals "is_number" = some (some (.ref f3))) (l3 : K.lookup f3 = some ⟨oc3, od3, .func (PySem.W.fnOf "is_number" "is_number" (defArgs s_is_number) (defBody s_is_number) (defScope s_is_number) .none kV3 dc3 pm3 an3 cd3 ct3), sl3⟩) (c3 : PySem.W.codeIn K cd3 "is_number" = true) (k3 : PySem.W.keepIn K (.ref f3) = true)
    {f4 : Addr} {od4 an4 : Option Addr} {sl4 : Array (Option Value)} {oc4 kV4 dc4 pm4 cd4 ct4 : Value} (a4 : PySem.W.nsIn K mainGlobals "in_letters" = some (some (.ref f4))) (l4 : K.lookup f4 = some ⟨oc4, od4, .func (PySem.W.fnOf "in_letters" "in_letters" (defArgs s_in_letters) (defBody s_in_letters) (defScope s_in_letters) .none kV4 dc4 pm4 an4 cd4 ct4), sl4⟩) (c4 : PySem.W.codeIn K cd4 "in_letters" = true) (k4 : PySem.W.keepIn K (.ref f4) = true)
    {f5 : Addr} {od5 an5 : Option Addr} {sl5 : Array (Option Value)} {oc5 kV5 dc5 pm5 cd5 ct5 : Value} (a5 : PySem.W.nsIn K mainGlobals "numeral" = some (some (.ref f5))) (l5 : K.lookup f5 = some ⟨oc5, od5, .func (PySem.W.fnOf "numeral" "numeral" (defArgs s_numeral) (defBody s_numeral) (defScope s_numeral) .none kV5 dc5 pm5 an5 cd5 ct5), sl5⟩) (c5 : PySem.W.codeIn K cd5 "numeral" = true) (k5 : PySem.W.keepIn K (.ref f5) = true)
    {f6 : Addr} {od6 an6 : Option Addr} {sl6 : Array (Option Value)} {oc6 kV6 dc6 pm6 cd6 ct6 : Value} (a6 : PySem.W.nsIn K mainGlobals "guess_roman" = some (some (.ref f6))) (l6 : K.lookup f6 = some ⟨oc6, od6, .func (PySem.W.fnOf "guess_roman" "guess_roman" (defArgs s_guess_roman) (defBody s_guess_roman) (defScope s_guess_roman) .none kV6 dc6 pm6 an6 cd6 ct6), sl6⟩) (c6 : PySem.W.codeIn K cd6 "guess_roman" = true) (k6 : PySem.W.keepIn K (.ref f6) = true)
    {f7 : Addr} {od7 an7 : Option Addr} {sl7 : Array (Option Value)} {oc7 kV7 dc7 pm7 cd7 ct7 : Value} (a7 : PySem.W.nsIn K mainGlobals "guess_places" = some (some (.ref f7))) (l7 : K.lookup f7 = some ⟨oc7, od7, .func (PySem.W.fnOf "guess_places" "guess_places" (defArgs s_guess_places) (defBody s_guess_places) (defScope s_guess_places) .none kV7 dc7 pm7 an7 cd7 ct7), sl7⟩) (c7 : PySem.W.codeIn K cd7 "guess_places" = true) (k7 : PySem.W.keepIn K (.ref f7) = true)
    {f8 : Addr} {od8 an8 : Option Addr} {sl8 : Array (Option Value)} {oc8 kV8 dc8 pm8 cd8 ct8 : Value} (a8 : PySem.W.nsIn K mainGlobals "guess" = some (some (.ref f8))) (l8 : K.lookup f8 = some ⟨oc8, od8, .func (PySem.W.fnOf "guess" "guess" (defArgs s_guess) (defBody s_guess) (defScope s_guess) .none kV8 dc8 pm8 an8 cd8 ct8), sl8⟩) (c8 : PySem.W.codeIn K cd8 "guess" = true) (k8 : PySem.W.keepIn K (.ref f8) = true)
    {f9 : Addr} {od9 an9 : Option Addr} {sl9 : Array (Option Value)} {oc9 kV9 dc9 pm9 cd9 ct9 : Value} (a9 : PySem.W.nsIn K mainGlobals "number_of" = some (some (.ref f9))) (l9 : K.lookup f9 = some ⟨oc9, od9, .func (PySem.W.fnOf "number_of" "number_of" (defArgs s_number_of) (defBody s_number_of) (defScope s_number_of) .none kV9 dc9 pm9 an9 cd9 ct9), sl9⟩) (c9 : PySem.W.codeIn K cd9 "number_of" = true) (k9 : PySem.W.keepIn K (.ref f9) = true)
    {f10 : Addr} {od10 an10 : Option Addr} {sl10 : Array (Option Value)} {oc10 kV10 dc10 pm10 cd10 ct10 : Value} (a10 : PySem.W.nsIn K mainGlobals "_law_draw" = some (some (.ref f10))) (l10 : K.lookup f10 = some ⟨oc10, od10, .func (PySem.W.fnOf "_law_draw" "_law_draw" (defArgs s__law_draw) (defBody s__law_draw) (defScope s__law_draw) .none kV10 dc10 pm10 an10 cd10 ct10), sl10⟩) (c10 : PySem.W.codeIn K cd10 "_law_draw" = true) (k10 : PySem.W.keepIn K (.ref f10) = true)
    {f11 : Addr} {od11 an11 : Option Addr} {sl11 : Array (Option Value)} {oc11 kV11 dc11 pm11 cd11 ct11 : Value} (a11 : PySem.W.nsIn K mainGlobals "_law_number" = some (some (.ref f11))) (l11 : K.lookup f11 = some ⟨oc11, od11, .func (PySem.W.fnOf "_law_number" "_law_number" (defArgs s__law_number) (defBody s__law_number) (defScope s__law_number) .none kV11 dc11 pm11 an11 cd11 ct11), sl11⟩) (c11 : PySem.W.codeIn K cd11 "_law_number" = true) (k11 : PySem.W.keepIn K (.ref f11) = true)
    {f12 : Addr} {od12 an12 : Option Addr} {sl12 : Array (Option Value)} {oc12 kV12 dc12 pm12 cd12 ct12 : Value} (a12 : PySem.W.nsIn K mainGlobals "_law_pow" = some (some (.ref f12))) (l12 : K.lookup f12 = some ⟨oc12, od12, .func (PySem.W.fnOf "_law_pow" "_law_pow" (defArgs s__law_pow) (defBody s__law_pow) (defScope s__law_pow) .none kV12 dc12 pm12 an12 cd12 ct12), sl12⟩) (c12 : PySem.W.codeIn K cd12 "_law_pow" = true) (k12 : PySem.W.keepIn K (.ref f12) = true)
    {f13 : Addr} {od13 an13 : Option Addr} {sl13 : Array (Option Value)} {oc13 kV13 dc13 pm13 cd13 ct13 : Value} (a13 : PySem.W.nsIn K mainGlobals "_law_numeral" = some (some (.ref f13))) (l13 : K.lookup f13 = some ⟨oc13, od13, .func (PySem.W.fnOf "_law_numeral" "_law_numeral" (defArgs s__law_numeral) (defBody s__law_numeral) (defScope s__law_numeral) .none kV13 dc13 pm13 an13 cd13 ct13), sl13⟩) (c13 : PySem.W.codeIn K cd13 "_law_numeral" = true) (k13 : PySem.W.keepIn K (.ref f13) = true)
    {f14 : Addr} {od14 an14 : Option Addr} {sl14 : Array (Option Value)} {oc14 kV14 dc14 pm14 cd14 ct14 : Value} (a14 : PySem.W.nsIn K mainGlobals "_law_whole" = some (some (.ref f14))) (l14 : K.lookup f14 = some ⟨oc14, od14, .func (PySem.W.fnOf "_law_whole" "_law_whole" (defArgs s__law_whole) (defBody s__law_whole) (defScope s__law_whole) .none kV14 dc14 pm14 an14 cd14 ct14), sl14⟩) (c14 : PySem.W.codeIn K cd14 "_law_whole" = true) (k14 : PySem.W.keepIn K (.ref f14) = true)
    {f15 : Addr} {od15 an15 : Option Addr} {sl15 : Array (Option Value)} {oc15 kV15 dc15 pm15 cd15 ct15 : Value} (a15 : PySem.W.nsIn K mainGlobals "_law_value" = some (some (.ref f15))) (l15 : K.lookup f15 = some ⟨oc15, od15, .func (PySem.W.fnOf "_law_value" "_law_value" (defArgs s__law_value) (defBody s__law_value) (defScope s__law_value) .none kV15 dc15 pm15 an15 cd15 ct15), sl15⟩) (c15 : PySem.W.codeIn K cd15 "_law_value" = true) (k15 : PySem.W.keepIn K (.ref f15) = true)
    {f16 : Addr} {od16 an16 : Option Addr} {sl16 : Array (Option Value)} {oc16 kV16 dc16 pm16 cd16 ct16 : Value} (a16 : PySem.W.nsIn K mainGlobals "_law_cell_at" = some (some (.ref f16))) (l16 : K.lookup f16 = some ⟨oc16, od16, .func (PySem.W.fnOf "_law_cell_at" "_law_cell_at" (defArgs s__law_cell_at) (defBody s__law_cell_at) (defScope s__law_cell_at) .none kV16 dc16 pm16 an16 cd16 ct16), sl16⟩) (c16 : PySem.W.codeIn K cd16 "_law_cell_at" = true) (k16 : PySem.W.keepIn K (.ref f16) = true)
    {f17 : Addr} {od17 an17 : Option Addr} {sl17 : Array (Option Value)} {oc17 kV17 dc17 pm17 cd17 ct17 : Value} (a17 : PySem.W.nsIn K mainGlobals "law" = some (some (.ref f17))) (l17 : K.lookup f17 = some ⟨oc17, od17, .func (PySem.W.fnOf "law" "law" (defArgs s_law) (defBody s_law) (defScope s_law) .none kV17 dc17 pm17 an17 cd17 ct17), sl17⟩) (c17 : PySem.W.codeIn K cd17 "law" = true) (k17 : PySem.W.keepIn K (.ref f17) = true)
    {aK aR : Addr} {tL tF tM tS : Tok} (gK : PySem.W.nsIn K mainGlobals "KINDS" = some (some (.ref aK))) (gR : PySem.W.nsIn K mainGlobals "ROMAN" = some (some (.ref aR))) (gL : PySem.W.nsIn K mainGlobals "LETTERS" = some (some (.str LET tL))) (gM : PySem.W.nsIn K mainGlobals "MOST_NUMBER" = some (some (.int 3099 tM))) (gF : PySem.W.nsIn K mainGlobals "FIGURES" = some (some (.str FIG tF))) (gS : PySem.W.nsIn K mainGlobals "MOST_SIGNS" = some (some (.int 14 tS)))
    {qK qR : Option Addr} {eK eR : Nat} {yK yR : Array (Option Value)} {t1 t2 t3 : Tok} (lK : K.lookup aK = some ⟨.type "tuple", qK, .seq #[.str "figures" t1, .str "letters" t2, .str "roman" t3] eK, yK⟩)
    {r1 r2 r3 r4 r5 r6 r7 r8 r9 r10 r11 r12 r13 : Addr} (lR : K.lookup aR = some ⟨.type "tuple", qR, .seq #[.ref r1, .ref r2, .ref r3, .ref r4, .ref r5, .ref r6, .ref r7, .ref r8, .ref r9, .ref r10, .ref r11, .ref r12, .ref r13] eR, yR⟩)
    {q1 : Option Addr} {e1 : Nat} {y1 : Array (Option Value)} {u1 v1 : Tok} (w1 : K.lookup r1 = some ⟨.type "tuple", q1, .seq #[.str "m" u1, .int 1000 v1] e1, y1⟩)
    {q2 : Option Addr} {e2 : Nat} {y2 : Array (Option Value)} {u2 v2 : Tok} (w2 : K.lookup r2 = some ⟨.type "tuple", q2, .seq #[.str "cm" u2, .int 900 v2] e2, y2⟩)
    {q3 : Option Addr} {e3 : Nat} {y3 : Array (Option Value)} {u3 v3 : Tok} (w3 : K.lookup r3 = some ⟨.type "tuple", q3, .seq #[.str "d" u3, .int 500 v3] e3, y3⟩)
    {q4 : Option Addr} {e4 : Nat} {y4 : Array (Option Value)} {u4 v4 : Tok} (w4 : K.lookup r4 = some ⟨.type "tuple", q4, .seq #[.str "cd" u4, .int 400 v4] e4, y4⟩)
    {q5 : Option Addr} {e5 : Nat} {y5 : Array (Option Value)} {u5 v5 : Tok} (w5 : K.lookup r5 = some ⟨.type "tuple", q5, .seq #[.str "c" u5, .int 100 v5] e5, y5⟩)
    {q6 : Option Addr} {e6 : Nat} {y6 : Array (Option Value)} {u6 v6 : Tok} (w6 : K.lookup r6 = some ⟨.type "tuple", q6, .seq #[.str "xc" u6, .int 90 v6] e6, y6⟩)
    {q7 : Option Addr} {e7 : Nat} {y7 : Array (Option Value)} {u7 v7 : Tok} (w7 : K.lookup r7 = some ⟨.type "tuple", q7, .seq #[.str "l" u7, .int 50 v7] e7, y7⟩)
    {q8 : Option Addr} {e8 : Nat} {y8 : Array (Option Value)} {u8 v8 : Tok} (w8 : K.lookup r8 = some ⟨.type "tuple", q8, .seq #[.str "xl" u8, .int 40 v8] e8, y8⟩)
    {q9 : Option Addr} {e9 : Nat} {y9 : Array (Option Value)} {u9 v9 : Tok} (w9 : K.lookup r9 = some ⟨.type "tuple", q9, .seq #[.str "x" u9, .int 10 v9] e9, y9⟩)
    {q10 : Option Addr} {e10 : Nat} {y10 : Array (Option Value)} {u10 v10 : Tok} (w10 : K.lookup r10 = some ⟨.type "tuple", q10, .seq #[.str "ix" u10, .int 9 v10] e10, y10⟩)
    {q11 : Option Addr} {e11 : Nat} {y11 : Array (Option Value)} {u11 v11 : Tok} (w11 : K.lookup r11 = some ⟨.type "tuple", q11, .seq #[.str "v" u11, .int 5 v11] e11, y11⟩)
    {q12 : Option Addr} {e12 : Nat} {y12 : Array (Option Value)} {u12 v12 : Tok} (w12 : K.lookup r12 = some ⟨.type "tuple", q12, .seq #[.str "iv" u12, .int 4 v12] e12, y12⟩)
    {q13 : Option Addr} {e13 : Nat} {y13 : Array (Option Value)} {u13 v13 : Tok} (w13 : K.lookup r13 = some ⟨.type "tuple", q13, .seq #[.str "i" u13, .int 1 v13] e13, y13⟩)
    (z0 : PySem.W.nsIn K mainGlobals "all" = some none)
    (z1 : PySem.W.nsIn K mainGlobals "bool" = some none)
    (z2 : PySem.W.nsIn K mainGlobals "divmod" = some none)
    (z3 : PySem.W.nsIn K mainGlobals "int" = some none)
    (z4 : PySem.W.nsIn K mainGlobals "isinstance" = some none)
    (z5 : PySem.W.nsIn K mainGlobals "len" = some none)
    (z6 : PySem.W.nsIn K mainGlobals "max" = some none)
    (z7 : PySem.W.nsIn K mainGlobals "min" = some none)
    (z8 : PySem.W.nsIn K mainGlobals "range" = some none)
    (z9 : PySem.W.nsIn K mainGlobals "str" = some none)
    (z10 : PySem.W.nsIn K mainGlobals "zip" = some none)
    : ∃ fd : FuncData, (∀ (s : Shared) (v : Value), BindsTo s fd ⟨[v], []⟩ [("_law_script", v)]) ∧ ∀ base : Heap, K.In base → base.Ns mainGlobals mg → FnOk l.prog w K mg base CX0 18 fa fd ["_law_script"] (spLaw K) := by
  have e := hfa.symm.trans (PySem.W.mg_of X G a17)
  cases e
  have F0 := fun_mk (st := s_is_kind) l0 c0 k0
  have b0 := F0.binds (ps := ["value"]) fun _ _ _ _ _ _ us hl => match us, hl with | [_], _ => rfl
  have F1 := fun_mk (st := s_check_kind) l1 c1 k1
  have b1 := F1.binds (ps := ["value"]) fun _ _ _ _ _ _ us hl => match us, hl with | [_], _ => rfl
  have F2 := fun_mk (st := s_in_roman) l2 c2 k2
  have b2 := F2.binds (ps := ["number"]) fun _ _ _ _ _ _ us hl => match us, hl with | [_], _ => rfl
  have F3 := fun_mk (st := s_is_number) l3 c3 k3
  have b3 := F3.binds (ps := ["value", "low", "high"]) fun _ _ _ _ _ _ us hl => match us, hl with | [_, _, _], _ => rfl
  have F4 := fun_mk (st := s_in_letters) l4 c4 k4
  have b4 := F4.binds (ps := ["number"]) fun _ _ _ _ _ _ us hl => match us, hl with | [_], _ => rfl
  have F5 := fun_mk (st := s_numeral) l5 c5 k5
  have b5 := F5.binds (ps := ["number", "kind"]) fun _ _ _ _ _ _ us hl => match us, hl with | [_, _], _ => rfl
  have F6 := fun_mk (st := s_guess_roman) l6 c6 k6
  have b6 := F6.binds (ps := ["text"]) fun _ _ _ _ _ _ us hl => match us, hl with | [_], _ => rfl
  have F7 := fun_mk (st := s_guess_places) l7 c7 k7
  have b7 := F7.binds (ps := ["text", "signs", "lowest"]) fun _ _ _ _ _ _ us hl => match us, hl with | [_, _, _], _ => rfl
  have F8 := fun_mk (st := s_guess) l8 c8 k8
  have b8 := F8.binds (ps := ["text", "kind"]) fun _ _ _ _ _ _ us hl => match us, hl with | [_, _], _ => rfl
  have F9 := fun_mk (st := s_number_of) l9 c9 k9
  have b9 := F9.binds (ps := ["text", "kind"]) fun _ _ _ _ _ _ us hl => match us, hl with | [_, _], _ => rfl
  have F10 := fun_mk (st := s__law_draw) l10 c10 k10
  have b10 := F10.binds (ps := ["_law_cell", "_law_k", "_law_most"]) fun _ _ _ _ _ _ us hl => match us, hl with | [_, _, _], _ => rfl
  have F11 := fun_mk (st := s__law_number) l11 c11 k11
  have b11 := F11.binds (ps := ["_law_cell", "_law_k", "_law_limit"]) fun _ _ _ _ _ _ us hl => match us, hl with | [_, _, _], _ => rfl
  have F12 := fun_mk (st := s__law_pow) l12 c12 k12
  have b12 := F12.binds (ps := ["_law_many"]) fun _ _ _ _ _ _ us hl => match us, hl with | [_], _ => rfl
  have F13 := fun_mk (st := s__law_numeral) l13 c13 k13
  have b13 := F13.binds (ps := ["_law_number_here", "_law_kind"]) fun _ _ _ _ _ _ us hl => match us, hl with | [_, _], _ => rfl
  have F14 := fun_mk (st := s__law_whole) l14 c14 k14
  have b14 := F14.binds (ps := ["_law_found"]) fun _ _ _ _ _ _ us hl => match us, hl with | [_], _ => rfl
  have F15 := fun_mk (st := s__law_value) l15 c15 k15
  have b15 := F15.binds (ps := ["_law_text", "_law_kind"]) fun _ _ _ _ _ _ us hl => match us, hl with | [_, _], _ => rfl
  have F16 := fun_mk (st := s__law_cell_at) l16 c16 k16
  have b16 := F16.binds (ps := ["_law_script", "_law_k"]) fun _ _ _ _ _ _ us hl => match us, hl with | [_, _], _ => rfl
  have F17 := fun_mk (st := s_law) l17 c17 k17
  have T : Tabs K aK aR [(r1, [109], 1000), (r2, [99, 109], 900), (r3, [100], 500), (r4, [99, 100], 400), (r5, [99], 100), (r6, [120, 99], 90), (r7, [108], 50), (r8, [120, 108], 40), (r9, [120], 10), (r10, [105, 120], 9), (r11, [118], 5), (r12, [105, 118], 4), (r13, [105], 1)] := by
    refine ⟨fun H => tup_in lK (show (3 : Nat) ≤ sizeLine by decide) (.cons ⟨t1, rfl⟩ (.cons ⟨t2, rfl⟩ (.cons ⟨t3, rfl⟩ .nil))), fun H => tup_in lR (show (13 : Nat) ≤ sizeLine by decide) (.cons rfl (.cons rfl (.cons rfl (.cons rfl (.cons rfl (.cons rfl (.cons rfl (.cons rfl (.cons rfl (.cons rfl (.cons rfl (.cons rfl (.cons rfl .nil))))))))))))), ?_, rfl⟩
    intro p hp H
    rcases List.mem_cons.mp hp with e | hp
    · rw [e]; exact row_at (l := [109]) (by decide +kernel) w1
    rcases List.mem_cons.mp hp with e | hp
    · rw [e]; exact row_at (l := [99, 109]) (by decide +kernel) w2
    rcases List.mem_cons.mp hp with e | hp
    · rw [e]; exact row_at (l := [100]) (by decide +kernel) w3
    rcases List.mem_cons.mp hp with e | hp
    · rw [e]; exact row_at (l := [99, 100]) (by decide +kernel) w4
    rcases List.mem_cons.mp hp with e | hp
    · rw [e]; exact row_at (l := [99]) (by decide +kernel) w5
    rcases List.mem_cons.mp hp with e | hp
    · rw [e]; exact row_at (l := [120, 99]) (by decide +kernel) w6
    rcases List.mem_cons.mp hp with e | hp
    · rw [e]; exact row_at (l := [108]) (by decide +kernel) w7
    rcases List.mem_cons.mp hp with e | hp
    · rw [e]; exact row_at (l := [120, 108]) (by decide +kernel) w8
    rcases List.mem_cons.mp hp with e | hp
    · rw [e]; exact row_at (l := [120]) (by decide +kernel) w9
    rcases List.mem_cons.mp hp with e | hp
    · rw [e]; exact row_at (l := [105, 120]) (by decide +kernel) w10
    rcases List.mem_cons.mp hp with e | hp
    · rw [e]; exact row_at (l := [118]) (by decide +kernel) w11
    rcases List.mem_cons.mp hp with e | hp
    · rw [e]; exact row_at (l := [105, 118]) (by decide +kernel) w12
    rcases List.mem_cons.mp hp with e | hp
    · rw [e]; exact row_at (l := [105]) (by decide +kernel) w13
    · cases hp
  have gls : ∀ (j : Nat) (g : Str × V), (gl aK aR)[j]? = some g → ∃ u, mg g.1 = some u ∧ RelV g.2 u := by
    intro j g hg
    match j, hg with
    | 0, hg => cases (Option.some.inj hg); exact ⟨_, PySem.W.mg_of X G gK, rfl⟩
    | 1, hg => cases (Option.some.inj hg); exact ⟨_, PySem.W.mg_of X G gR, rfl⟩
    | 2, hg => cases (Option.some.inj hg); exact ⟨_, PySem.W.mg_of X G gL, tL, rfl⟩
    | 3, hg => cases (Option.some.inj hg); exact ⟨_, PySem.W.mg_of X G gM, tM, rfl⟩
    | 4, hg => cases (Option.some.inj hg); exact ⟨_, PySem.W.mg_of X G gF, tF, rfl⟩
    | 5, hg => cases (Option.some.inj hg); exact ⟨_, PySem.W.mg_of X G gS, tS, rfl⟩
    | j + 6, hg => cases hg
  have bls : ∀ x ∈ bl, mg x = none := by
    intro x hx
    rcases List.mem_cons.mp hx with e | hx
    · rw [e]; exact PySem.W.mg_none_of X G z0
    rcases List.mem_cons.mp hx with e | hx
    · rw [e]; exact PySem.W.mg_none_of X G z1
    rcases List.mem_cons.mp hx with e | hx
    · rw [e]; exact PySem.W.mg_none_of X G z2
    rcases List.mem_cons.mp hx with e | hx
    · rw [e]; exact PySem.W.mg_none_of X G z3
    rcases List.mem_cons.mp hx with e | hx
    · rw [e]; exact PySem.W.mg_none_of X G z4
    rcases List.mem_cons.mp hx with e | hx
    · rw [e]; exact PySem.W.mg_none_of X G z5
    rcases List.mem_cons.mp hx with e | hx
    · rw [e]; exact PySem.W.mg_none_of X G z6
    rcases List.mem_cons.mp hx with e | hx
    · rw [e]; exact PySem.W.mg_none_of X G z7
    rcases List.mem_cons.mp hx with e | hx
    · rw [e]; exact PySem.W.mg_none_of X G z8
    rcases List.mem_cons.mp hx with e | hx
    · rw [e]; exact PySem.W.mg_none_of X G z9
    rcases List.mem_cons.mp hx with e | hx
    · rw [e]; exact PySem.W.mg_none_of X G z10
    · cases hx
  exact ⟨PySem.W.fnOf "law" "law" (defArgs s_law) (defBody s_law) (defScope s_law) .none kV17 dc17 pm17 an17 cd17 ct17, fun s v => .of_eq rfl, fun base _ _ => chain T (Tb.nil gls bls) F0 (PySem.W.mg_of X G a0) b0 F1 (PySem.W.mg_of X G a1) b1 F2 (PySem.W.mg_of X G a2) b2 F3 (PySem.W.mg_of X G a3) b3 F4 (PySem.W.mg_of X G a4) b4 F5 (PySem.W.mg_of X G a5) b5 F6 (PySem.W.mg_of X G a6) b6 F7 (PySem.W.mg_of X G a7) b7 F8 (PySem.W.mg_of X G a8) b8 F9 (PySem.W.mg_of X G a9) b9 F10 (PySem.W.mg_of X G a10) b10 F11 (PySem.W.mg_of X G a11) b11 F12 (PySem.W.mg_of X G a12) b12 F13 (PySem.W.mg_of X G a13) b13 F14 (PySem.W.mg_of X G a14) b14 F15 (PySem.W.mg_of X G a15) b15 F16 (PySem.W.mg_of X G a16) b16 F17 (PySem.W.mg_of X G a17) ⟩
theorem walk {l : PySem.W.OpenLaw} {q : Program} {loose : List Str} {XP : (Str → Option Value) → Heap → Prop} {YP : World → Heap → Prop} {d : DefRec} {K : Params → PySem.W.Frag} (hn : l.most = some 63) (hdf : d.params.defaults = [])
    (hY : ∀ (w : World) (h : Heap), YP w h → (K w.params).In h)
    (F : ∀ (w : World) (mg : Str → Option Value) (fa : Addr) (h : Heap), (K w.params).In h → h.Ns mainGlobals mg → mg d.name = some (.ref fa) →
      ∃ fd : FuncData, (∀ (s : Shared) (u : Value), BindsTo s fd ⟨[u], []⟩ [("_law_script", u)]) ∧ ∀ base : Heap, (K w.params).In base → base.Ns mainGlobals mg → FnOk l.prog w (K w.params) mg base CX0 18 fa fd ["_law_script"] (spLaw (K w.params))) :
    PySem.W.WalkO q loose XP YP l.row.toRowW d [] (fun f vs => PySem.call f vs) :=
  L2.walk_of (n := 63) (k := 18) (x := "_law_script") (CX := fun _ => CX0) (sp := fun w => spLaw (K w.params)) hn (by decide) hdf ⟨rfl, by decide, by decide⟩ hY F (fun _ _ a ns hl hO hS => ⟨a, ns, rfl, hS, hl, NoT.only hO, fun _ => rfl⟩) fun _ _ _ _ _ z => z
end K1

end

section
open PySem PySem.W PyProof.Rows
set_option maxRecDepth 100000 in
set_option maxHeartbeats 0 in
theorem PySem.Challenge.cw_listmarks_k02_whole_texts_read_holds : PySem.Challenge.rw_listmarks_k02_whole_texts_read.Holds := by
  w_on; o_law; k_head; (case hw => w_witness2)
  k_fill
  refine K1.walk (l := PySem.Challenge.rw_listmarks_k02_whole_texts_read) rfl rfl (fun w h Y => PySem.W.kIn_of Y) ?F
  case F =>
    intro w mg fa h KX G hmg
    refine' K1.all_mk KX G hmg ?a0 ?l0 ?c0 ?k0 ?a1 ?l1 ?c1 ?k1 ?a2 ?l2 ?c2 ?k2 ?a3 ?l3 ?c3 ?k3 ?a4 ?l4 ?c4 ?k4 ?a5 ?l5 ?c5 ?k5 ?a6 ?l6 ?c6 ?k6 ?a7 ?l7 ?c7 ?k7 ?a8 ?l8 ?c8 ?k8 ?a9 ?l9 ?c9 ?k9 ?a10 ?l10 ?c10 ?k10 ?a11 ?l11 ?c11 ?k11 ?a12 ?l12 ?c12 ?k12 ?a13 ?l13 ?c13 ?k13 ?a14 ?l14 ?c14 ?k14 ?a15 ?l15 ?c15 ?k15 ?a16 ?l16 ?c16 ?k16 ?a17 ?l17 ?c17 ?k17 ?gK ?gR ?gL ?gM ?gF ?gS ?lK ?lR ?w1 ?w2 ?w3 ?w4 ?w5 ?w6 ?w7 ?w8 ?w9 ?w10 ?w11 ?w12 ?w13 ?z0 ?z1 ?z2 ?z3 ?z4 ?z5 ?z6 ?z7 ?z8 ?z9 ?z10
    (case a0 => k_is)
    (case l0 => k_is)
    (case c0 => k_is)
    (case k0 => k_is)
    (case a1 => k_is)
    (case l1 => k_is)
    (case c1 => k_is)
    (case k1 => k_is)
    (case a2 => k_is)
    (case l2 => k_is)
    (case c2 => k_is)
    (case k2 => k_is)
    (case a3 => k_is)
    (case l3 => k_is)
    (case c3 => k_is)
    (case k3 => k_is)
    (case a4 => k_is)
    (case l4 => k_is)
    (case c4 => k_is)
    (case k4 => k_is)
    (case a5 => k_is)
    (case l5 => k_is)
    (case c5 => k_is)
    (case k5 => k_is)
    (case a6 => k_is)
    (case l6 => k_is)
    (case c6 => k_is)
    (case k6 => k_is)
    (case a7 => k_is)
    (case l7 => k_is)
    (case c7 => k_is)
    (case k7 => k_is)
    (case a8 => k_is)
    (case l8 => k_is)
    (case c8 => k_is)
    (case k8 => k_is)
    (case a9 => k_is)
    (case l9 => k_is)
    (case c9 => k_is)
    (case k9 => k_is)
    (case a10 => k_is)
    (case l10 => k_is)
    (case c10 => k_is)
    (case k10 => k_is)
    (case a11 => k_is)
    (case l11 => k_is)
    (case c11 => k_is)
    (case k11 => k_is)
    (case a12 => k_is)
    (case l12 => k_is)
    (case c12 => k_is)
    (case k12 => k_is)
    (case a13 => k_is)
    (case l13 => k_is)
    (case c13 => k_is)
    (case k13 => k_is)
    (case a14 => k_is)
    (case l14 => k_is)
    (case c14 => k_is)
    (case k14 => k_is)
    (case a15 => k_is)
    (case l15 => k_is)
    (case c15 => k_is)
    (case k15 => k_is)
    (case a16 => k_is)
    (case l16 => k_is)
    (case c16 => k_is)
    (case k16 => k_is)
    (case a17 => k_is)
    (case l17 => k_is)
    (case c17 => k_is)
    (case k17 => k_is)
    (case gK => k_is)
    (case gR => k_is)
    (case gL => k_is)
    (case gM => k_is)
    (case gF => k_is)
    (case gS => k_is)
    (case lK => k_is)
    (case lR => k_is)
    (case w1 => k_is)
    (case w2 => k_is)
    (case w3 => k_is)
    (case w4 => k_is)
    (case w5 => k_is)
    (case w6 => k_is)
    (case w7 => k_is)
    (case w8 => k_is)
    (case w9 => k_is)
    (case w10 => k_is)
    (case w11 => k_is)
    (case w12 => k_is)
    (case w13 => k_is)
    (case z0 => k_is)
    (case z1 => k_is)
    (case z2 => k_is)
    (case z3 => k_is)
    (case z4 => k_is)
    (case z5 => k_is)
    (case z6 => k_is)
    (case z7 => k_is)
    (case z8 => k_is)
    (case z9 => k_is)
    (case z10 => k_is)
#print axioms PySem.Challenge.cw_listmarks_k02_whole_texts_read_holds

end
