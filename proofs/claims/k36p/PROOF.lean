import PyProof.Rows.All
import Wide.All
import OpenK.AllK
import Wide.FinOn
import Lean
import PyProof.EqAt
import PyProof.EqKinds
import PyProof.TupleCall
import PyProof.ReprRoads
import PyProof.ReprLen
import PyProof.Rows.FactsT3
import PyProof.NeData
import PyProof.ListRange
import PyProof.ZipIter
import PyProof.Rows.ZipGen
import PyProof.ConsumeWalk
import PyProof.Rows.RuleM_int
import PyProof.Rows.SeqGen
import PyProof.MinMaxWalk
import PyProof.WalkInts
import PyProof.SeqI3
import PyProof.Rows.SeqCalls
import PySem.Challenge.RW_linegate_k36_places_kept_and_open
set_option Elab.async false
set_option linter.all false
set_option maxRecDepth 100000
namespace L2
open PySem PySem.Spec PyProof.Rows
abbrev Key := Sum Int Str
def keyIs : Key → Value → Bool
  | .inl k, v => Value.isInt k v
  | .inr x, v => Value.isStrOf x v
def keyH (w : World) : Key → Int
  | .inl k => hashInt k
  | .inr x => hashStr w x
theorem keyIs_shape : ∀ {k : Key} {v : Value}, keyIs k v = true → (∃ i t, k = Sum.inl i ∧ v = Value.int i t) ∨ (∃ x t, k = Sum.inr x ∧ v = Value.str x t)
  | .inl i, v, h => by
    obtain ⟨t, e⟩ := Value.isInt_shape (k := i) (v := v) h
    exact .inl ⟨i, t, rfl, e⟩
  | .inr x, v, h => by
    obtain ⟨t, e⟩ := Value.isStrOf_shape (x := x) (v := v) h
    exact .inr ⟨x, t, rfl, e⟩
theorem keyIs_int (i : Int) (t : Tok) : keyIs (.inl i) (.int i t) = true := by simp [keyIs, Value.isInt]
theorem keyIs_str (x : Str) (t : Tok) : keyIs (.inr x) (.str x t) = true := by simp [keyIs, Value.isStrOf]
theorem key_ll (a b : Int) : decide ((Sum.inl a : Key) = Sum.inl b) = (a == b) := by
  by_cases e : a = b
  · subst e; simp
  · have h : ¬ (Sum.inl a : Key) = Sum.inl b := fun q => e (Sum.inl.inj q)
    rw [decide_eq_false h]
    exact (beq_eq_false_iff_ne.mpr e).symm
theorem key_rr (a b : Str) : decide ((Sum.inr a : Key) = Sum.inr b) = decide (a = b) := by
  by_cases e : a = b
  · subst e; simp
  · have h : ¬ (Sum.inr a : Key) = Sum.inr b := fun q => e (Sum.inr.inj q)
    rw [decide_eq_false h, decide_eq_false e]
theorem key_lr (a : Int) (b : Str) : decide ((Sum.inl a : Key) = Sum.inr b) = false := decide_eq_false (fun q => nomatch q)
theorem key_rl (a : Str) (b : Int) : decide ((Sum.inr a : Key) = Sum.inl b) = false := decide_eq_false (fun q => nomatch q)
def mixKind (prog : Program) (w : World) : PySem.KeyKind prog w Key where
  is := keyIs
  hash := keyH w
  inj := fun v a b ha hb => by
    rcases keyIs_shape ha with ⟨i, t, rfl, rfl⟩ | ⟨x, t, rfl, rfl⟩
    · rcases keyIs_shape hb with ⟨j, u, rfl, e⟩ | ⟨y, u, rfl, e⟩
      · injection e with e1 _; rw [e1]
      · exact nomatch e
    · rcases keyIs_shape hb with ⟨j, u, rfl, e⟩ | ⟨y, u, rfl, e⟩
      · exact nomatch e
      · injection e with e1 _; rw [e1]
  byValue := fun k v h => by
    rcases keyIs_shape h with ⟨i, t, rfl, rfl⟩ | ⟨x, t, rfl, rfl⟩ <;> rfl
  pyHash := fun hv h => by
    rcases keyIs_shape hv with ⟨i, t, rfl, rfl⟩ | ⟨x, t, rfl, rfl⟩
    · exact wpAny_pyHash_int h
    · exact wpAny_pyHash_str h
  eqBool := fun hu hv h => by
    rcases keyIs_shape hu with ⟨i, t, rfl, rfl⟩ | ⟨x, t, rfl, rfl⟩
    · rcases keyIs_shape hv with ⟨j, u, rfl, rfl⟩ | ⟨y, u, rfl, rfl⟩
      · rw [key_ll] at h; exact wpAny_eqBool_int h
      · rw [key_lr] at h; exact SeqAt.EqAt.int_str i t y u _ _ _ _ h
    · rcases keyIs_shape hv with ⟨j, u, rfl, rfl⟩ | ⟨y, u, rfl, rfl⟩
      · rw [key_rl] at h; exact SeqAt.EqAt.str_int x t j u _ _ _ _ h
      · rw [key_rr] at h; exact wpAny_eqBool_str h
  «strs» := fun k x t v h => by
    rcases keyIs_shape h with ⟨i, u, rfl, e⟩ | ⟨y, u, rfl, e⟩
    · exact nomatch e
    · injection e with e1 _
      subst e1
      cases v <;> rfl
theorem mixKind_is (prog : Program) (w : World) (k : Key) (v : Value) : (mixKind prog w).is k v = keyIs k v := rfl
theorem mixKind_int (prog : Program) (w : World) (i : Int) (t : Tok) : (mixKind prog w).is (.inl i) (.int i t) = true := keyIs_int i t
theorem mixKind_str (prog : Program) (w : World) (x : Str) (t : Tok) : (mixKind prog w).is (.inr x) (.str x t) = true := keyIs_str x t
end L2
namespace L2
open PySem PySem.Spec PyProof.Rows
inductive V where
  | non | bl (b : Bool) | int (i : Int) | str (x : Str) | byt (b : Array UInt8) | flt (b : UInt64) | ref (a : Addr) | ty (n : String)
  deriving DecidableEq
def RelV : V → Value → Prop
  | .non, u => u = Value.none
  | .bl b, u => u = Value.bool b
  | .int i, u => ∃ t, u = Value.int i t
  | .str x, u => ∃ t, u = Value.str x t
  | .byt b, u => ∃ t, u = Value.bytes b t
  | .flt b, u => ∃ t, u = Value.float b t
  | .ref a, u => u = Value.ref a
  | .ty n, u => u = Value.type n
abbrev Vals : List V → List Value → Prop := Paired RelV
theorem Vals.length {xs : List V} {us : List Value} (r : Vals xs us) : xs.length = us.length := Paired.length r
theorem Vals.get : ∀ {xs : List V} {us : List Value} {i : Nat} {x : V}, Vals xs us → xs[i]? = some x → ∃ u, us[i]? = some u ∧ RelV x u
  | _, _, _, _, .nil, e => by simp at e
  | _, _, 0, _, .cons r _, e => by simp at e; subst e; exact ⟨_, rfl, r⟩
  | _, _, i + 1, x, .cons _ t, e => by
    obtain ⟨u, h1, h2⟩ := Vals.get (i := i) (x := x) t (by simpa using e)
    exact ⟨u, by simpa using h1, h2⟩
theorem Vals.set {x : V} {u : Value} (r : RelV x u) : ∀ {xs : List V} {us : List Value} (i : Nat), Vals xs us → Vals (xs.set i x) (us.set i u)
  | _, _, _, .nil => .nil
  | _, _, 0, .cons _ t => .cons r t
  | _, _, i + 1, .cons q t => .cons q (Vals.set r i t)
theorem Vals.append : ∀ {xs ys : List V} {us ws : List Value}, Vals xs us → Vals ys ws → Vals (xs ++ ys) (us ++ ws)
  | _, _, _, _, .nil, s => s
  | _, _, _, _, .cons r t, s => .cons r (Vals.append t s)
theorem Vals.take : ∀ {xs : List V} {us : List Value} (n : Nat), Vals xs us → Vals (xs.take n) (us.take n)
  | _, _, 0, _ => .nil
  | _, _, _ + 1, .nil => .nil
  | _, _, n + 1, .cons r t => .cons r (Vals.take n t)
theorem Vals.drop : ∀ {xs : List V} {us : List Value} (n : Nat), Vals xs us → Vals (xs.drop n) (us.drop n)
  | _, _, 0, r => r
  | _, _, _ + 1, .nil => .nil
  | _, _, n + 1, .cons _ t => Vals.drop n t
theorem Vals.none_of : ∀ {xs : List V} {us : List Value} {i : Nat}, Vals xs us → xs[i]? = none → us[i]? = none := fun {xs us i} r e => by
  have h1 := r.length
  have h2 : xs.length ≤ i := List.getElem?_eq_none_iff.mp e
  exact List.getElem?_eq_none_iff.mpr (by omega)
def RelO : Option V → Option Value → Prop
  | some v, some u => RelV v u
  | none, none => True
  | _, _ => False
def KV {κ : Type} : List (κ × V) → List (κ × Value) → Prop := Paired fun (p : κ × V) (q : κ × Value) => p.1 = q.1 ∧ RelV p.2 q.2
def kV : Key → V
  | .inl i => .int i
  | .inr x => .str x
def PlainT (h : Heap) (a : Addr) (items : Array Value) : Prop := ∃ o, h.get? a = some o ∧ o.cls = .type "tuple" ∧ o.dict = none ∧ ∃ n, o.data = .seq items n
theorem PlainT.isTup {h : Heap} {a : Addr} {items : Array Value} (x : PlainT h a items) : IsTup h a items := let ⟨o, e, c, _, d⟩ := x; ⟨o, e, c, d⟩
theorem PlainT.lt {h : Heap} {a : Addr} {items : Array Value} (x : PlainT h a items) : a < h.objs.size := let ⟨_, e, _⟩ := x; Heap.lt_size e
theorem PlainT.new (h : Heap) (items : Array Value) : PlainT (h.push { cls := .type "tuple", data := .seq items }) h.objs.size items := ⟨_, Heap.get?_push_size _ rfl, rfl, rfl, _, rfl⟩
inductive HO where
  | lst (xs : List V)
  | tup (xs : List V)
  | dK (kvs : List (Key × V)) | dT (kvs : List (List Key × V))
  | set (S : Int → Bool) (n : Nat)
  | ins (C dx : Addr) (fs : List (Str × V))
  | own (x : Addr)
  | xd (fs : List (Str × V))
  | met (f x : Addr)
  | rng (lo hi : Int)
  | frz (o : Obj) (u : HO)
  | tbl (ps : Array Value)
  | ext (φ : Heap → Prop)
abbrev Hp := Addr → Option HO
def upd (H : Hp) (a : Addr) (o : HO) : Hp := fun b => if b = a then some o else H b
theorem upd_same {H : Hp} {a : Addr} {o : HO} : upd H a o a = some o := by unfold upd; rw [if_pos rfl]
theorem upd_ne {H : Hp} {a b : Addr} {o : HO} (h : b ≠ a) : upd H a o b = H b := by unfold upd; rw [if_neg h]
theorem upd_upd {H : Hp} {a : Addr} {o u : HO} : upd (upd H a o) a u = upd H a u := by
  funext b; unfold upd; split <;> rfl
theorem ne_of {H : Hp} {a b : Addr} {o u : HO} (h : H a = some o) (h' : H b = some u) (d : o ≠ u) : a ≠ b := by
  intro e; subst e; rw [h] at h'; exact d (Option.some.inj h')
theorem ne_of_none {H : Hp} {a b : Addr} {o : HO} (h : H a = some o) (h' : H b = none) : a ≠ b := by
  intro e; subst e; rw [h] at h'; cases h'
section
variable (P : Program) (w : World)
def ObjOk (H : Hp) (h : Heap) (a : Addr) : HO → Prop
  | .lst xs => xs.length ≤ sizeLine ∧ ∃ (its : List Value) (n : Nat), Vals xs its ∧ h.get? a = some { cls := .type "list", data := .seq its.toArray n }
  | .tup xs => xs.length ≤ sizeLine ∧ ∃ its : List Value, Vals xs its ∧ PlainT h a its.toArray
  | .dK kvs => kvs.length ≤ sizeLine ∧ (a == sysModules) = false ∧ ∃ vs, KV kvs vs ∧ h.DictOf (mixKind P w) a vs
  | .dT kvs => kvs.length ≤ sizeLine ∧ (a == sysModules) = false ∧ ∃ xs : List (List Key × Addr × Value),
      Paired (fun (p : List Key × V) (q : List Key × Addr × Value) => p.1 = q.1 ∧ H q.2.1 = some (.tup (p.1.map kV)) ∧ RelV p.2 q.2.2) kvs xs ∧
      ∃ o es ep, h.get? a = some o ∧ o.ExactDict ∧ o.data = .dict es ep ∧ es.toList = xs.map (entryOfKey (tupleKind (mixKind P w))) ∧ (xs.map (·.1)).Nodup
  | .set S n => h.SetOf (intKind P w) a S n
  | .ins C dx fs => H dx = some (.own a) ∧ fs.length ≤ 1000 ∧ dx ≠ a ∧ h.get? a = some (PySem.W.instObj C dx) ∧
      ∃ mA, h.Ns1 dx mA ∧ (∀ f, RelO (fs.lookup f) (mA f)) ∧ PySem.Within mA (fs.map (·.1))
  | .own _ => ∃ o, h.get? a = some o
  | .xd fs => ∃ mA, h.Ns1 a mA ∧ ∀ f, RelO (fs.lookup f) (mA f)
  | .rng lo hi => ∃ t u v, h.get? a = some { cls := .type "range", data := .fields #[.int lo t, .int hi u, .int 1 v] }
  | .frz o u => h.get? a = some o ∧ ObjOk H h a u
  | .tbl ps => h.get? a = some { cls := .none, data := .fields ps }
  | .met f x => h.get? a = some (PySem.W.methodObj (.ref f) (.ref x))
  | .ext φ => φ h ∧ (∃ o, h.get? a = some o) ∧ ∀ h1 h2 : Heap, φ h1 → (∀ o, h1.get? a = some o → h2.get? a = some o) → φ h2
def HOk (H : Hp) (h : Heap) : Prop := ∀ a o, H a = some o → ObjOk P w H h a o
end
section
variable {P : Program} {w : World} {H H' : Hp} {h h' : Heap} {a : Addr} {o : HO}
theorem ObjOk.lt (x : ObjOk P w H h a o) : a < h.objs.size := by
  cases o with
  | lst xs => obtain ⟨_, _, _, _, e⟩ := x; exact Heap.lt_size e
  | tup xs => obtain ⟨_, _, _, p⟩ := x; exact p.lt
  | dK kvs => obtain ⟨_, _, _, _, o, _, _, e, _⟩ := x; exact Heap.lt_size e
  | dT kvs => obtain ⟨_, _, _, _, o, _, _, e, _⟩ := x; exact Heap.lt_size e
  | set S n => obtain ⟨o, _, _, _, e, _⟩ := x; exact Heap.lt_size e
  | ins C dx fs => obtain ⟨_, _, _, e, _⟩ := x; exact Heap.lt_size e
  | own y => obtain ⟨_, e⟩ := x; exact Heap.lt_size e
  | xd fs => obtain ⟨_, ⟨_, _, _, e, _⟩, _⟩ := x; exact Heap.lt_size e
  | rng lo hi => obtain ⟨_, _, _, e⟩ := x; exact Heap.lt_size e
  | frz ob u => obtain ⟨e, _⟩ := x; exact Heap.lt_size e
  | tbl ps => exact Heap.lt_size (show h.get? a = some _ from x)
  | met f y => exact Heap.lt_size (show h.get? a = some _ from x)
  | ext φ => obtain ⟨_, ⟨_, e⟩, _⟩ := x; exact Heap.lt_size e
theorem Paired.mapP {α β : Type} {F G : α → β → Prop} : ∀ {l₁ : List α} {l₂ : List β}, Paired F l₁ l₂ → (∀ a b, F a b → G a b) → Paired G l₁ l₂
  | _, _, .nil, _ => .nil
  | _, _, .cons r t, f => .cons (f _ _ r) (Paired.mapP t f)
theorem Paired.imp' {α β : Type} {F G : α → β → Prop} (f : ∀ a b, F a b → G a b) {l₁ : List α} {l₂ : List β} (r : Paired F l₁ l₂) : Paired G l₁ l₂ := Paired.mapP r f
theorem ObjOk.stay (x : ObjOk P w H h a o) (k : ∀ b u, (b = a ∨ H b = some (.own a)) → h.get? b = some u → h'.get? b = some u)
    (ho : ∀ b, H b = some (.own a) → H' b = some (.own a)) (ht : ∀ b xs, H b = some (.tup xs) → H' b = some (.tup xs)) : ObjOk P w H' h' a o := by
  induction o with
  | lst xs => obtain ⟨z, its, n, r, e⟩ := x; exact ⟨z, its, n, r, k _ _ (.inl rfl) e⟩
  | tup xs => obtain ⟨z, its, r, ob, e, c⟩ := x; exact ⟨z, its, r, ob, k _ _ (.inl rfl) e, c⟩
  | dK kvs => obtain ⟨z, y, vs, r, ob, es, ep, e, c⟩ := x; exact ⟨z, y, vs, r, ob, es, ep, k _ _ (.inl rfl) e, c⟩
  | dT kvs =>
    obtain ⟨z, y, xs, r, ob, es, ep, e, c⟩ := x
    exact ⟨z, y, xs, Paired.mapP r fun p q z => ⟨z.1, ht _ _ z.2.1, z.2.2⟩, ob, es, ep, k _ _ (.inl rfl) e, c⟩
  | set S n => obtain ⟨ob, es, ep, t, e, c⟩ := x; exact ⟨ob, es, ep, t, k _ _ (.inl rfl) e, c⟩
  | ins C dx fs =>
    obtain ⟨d, z, ne, e, mA, ⟨od, es, ep, e2, c⟩, r⟩ := x
    exact ⟨ho _ d, z, ne, k _ _ (.inl rfl) e, mA, ⟨od, es, ep, k _ _ (.inr d) e2, c⟩, r⟩
  | own y => obtain ⟨ob, e⟩ := x; exact ⟨ob, k _ _ (.inl rfl) e⟩
  | xd fs => obtain ⟨mA, ⟨od, es, ep, e, c⟩, r⟩ := x; exact ⟨mA, ⟨od, es, ep, k _ _ (.inl rfl) e, c⟩, r⟩
  | rng lo hi => obtain ⟨t, u, v, e⟩ := x; exact ⟨t, u, v, k _ _ (.inl rfl) e⟩
  | frz ob u ih => obtain ⟨e, q⟩ := x; exact ⟨k _ _ (.inl rfl) e, ih q⟩
  | tbl ps =>
    have e : h.get? a = some { cls := .none, data := .fields ps } := x
    show h'.get? a = some { cls := .none, data := .fields ps }
    exact k a _ (.inl rfl) e
  | met f y =>
    have e : h.get? a = some (PySem.W.methodObj (.ref f) (.ref y)) := x
    show h'.get? a = some (PySem.W.methodObj (.ref f) (.ref y))
    exact k a _ (.inl rfl) e
  | ext φ => obtain ⟨p, ⟨o, e⟩, st⟩ := x; exact ⟨st _ _ p fun o q => k _ _ (.inl rfl) q, ⟨o, k _ _ (.inl rfl) e⟩, st⟩
theorem HOk.lt (x : HOk P w H h) (e : H a = some o) : a < h.objs.size := (x a o e).lt
theorem HOk.fresh (x : HOk P w H h) (e : h.objs.size ≤ a) : H a = none := by
  cases q : H a with
  | none => rfl
  | some u => exact absurd (Nat.lt_of_lt_of_le (x.lt q) e) (Nat.lt_irrefl _)
theorem HOk.kept (x : HOk P w H h) (k : ∀ b u, h.get? b = some u → h'.get? b = some u) : HOk P w H h' := fun a o e =>
  (x a o e).stay (fun b u _ q => k b u q) (fun _ q => q) fun _ _ q => q
theorem HOk.laid (x : HOk P w H h) (k : ∀ b u, h.get? b = some u → h'.get? b = some u) (hp : h.objs.size ≤ a) (new : ObjOk P w (upd H a o) h' a o) : HOk P w (upd H a o) h' := fun b u e => by
  have hn := x.fresh hp
  by_cases hb : b = a
  · subst hb; rw [upd_same] at e; cases e; exact new
  · rw [upd_ne hb] at e
    exact (x b u e).stay (fun c v _ q => k c v q) (fun c q => by rw [upd_ne (ne_of_none q hn)]; exact q) fun c xs q => by rw [upd_ne (ne_of_none q hn)]; exact q
end
def Rd (H : Hp) (a : Addr) (u : HO) : Prop := H a = some u ∨ ∃ o, H a = some (.frz o u)
theorem Rd.of {H : Hp} {a : Addr} {u : HO} (h : H a = some u) : Rd H a u := .inl h
theorem Rd.ok {P : Program} {w : World} {H : Hp} {h : Heap} {a : Addr} {u : HO} (r : Rd H a u) (x : HOk P w H h) : ObjOk P w H h a u := by
  rcases r with r | ⟨o, r⟩
  · exact x a u r
  · obtain ⟨_, q⟩ := x a _ r
    exact q
def Mut : Option HO → Prop
  | some (.lst _) => True
  | some (.dK _) => True
  | some (.dT _) => True
  | some (.set _ _) => True
  | some (.ins _ _ _) => True
  | some (.ext _) => True
  | _ => False
section
variable {P : Program} {w : World} {H : Hp} {h h' : Heap} {x e : Addr} {o' : HO}
theorem HOk.write (ok : HOk P w H h) (mu : Mut (H x)) (he : e = x ∨ H e = some (.own x)) (k : ∀ b u, b ≠ e → h.get? b = some u → h'.get? b = some u) (heo : ∃ u, h'.get? e = some u)
    (new : ObjOk P w (upd H x o') h' x o') : HOk P w (upd H x o') h' := fun b u q => by
  have nown : ∀ c y, H c = some (.own y) → c ≠ x := fun c y r z => by subst z; rw [r] at mu; exact mu
  have ntup : ∀ c xs, H c = some (.tup xs) → c ≠ x := fun c xs r z => by subst z; rw [r] at mu; exact mu
  by_cases hb : b = x
  · subst hb; rw [upd_same] at q; cases q; exact new
  · rw [upd_ne hb] at q
    by_cases hbe : b = e
    · have q' : H b = some (.own x) := by
        rcases he with z | z
        · exact absurd (hbe.trans z) hb
        · rw [hbe]; exact z
      rw [q] at q'; cases q'
      obtain ⟨v, hv⟩ := heo
      exact ⟨v, by rw [hbe]; exact hv⟩
    · refine (ok b u q).stay (fun c v hc r => k c v ?_ r) (fun c r => by rw [upd_ne (nown c b r)]; exact r) fun c xs r => by rw [upd_ne (ntup c xs r)]; exact r
      rcases hc with rfl | hc
      · exact hbe
      · rintro rfl
        rcases he with z | z
        · exact nown c b hc z
        · rw [hc] at z; cases z; exact hb rfl
end
structure Un (fs ex : List Addr) (H H' : Hp) (h h' : Heap) : Prop where
  keep : ∀ b o, h.get? b = some o → H b = none → b ∉ fs → b ∉ ex → h'.get? b = some o
  slot : ∀ b o, h.get? b = some o → H b = none → b ∈ fs → b ∉ ex → ∃ sl, h'.get? b = some { o with slots := sl }
  free : ∀ b o, h.get? b = some o → H b = none → b ∉ ex → H' b = none
  there : ∀ b o, h.get? b = some o → b ∉ ex → ∃ o', h'.get? b = some o'
  tups : ∀ b xs, H b = some (.tup xs) → H' b = some (.tup xs)
  frzs : ∀ b o u, H b = some (.frz o u) → H' b = some (.frz o u)
  tbls : ∀ b ps, H b = some (.tbl ps) → ∃ more, H' b = some (.tbl (ps ++ more))
section
variable {fs fs' ex ex' : List Addr} {H H1 H2 : Hp} {h h1 h2 h' : Heap} {a x e : Addr} {o : HO}
theorem Un.any (u : Un fs ex H H1 h h1) {b : Addr} {ob : Obj} (q : h.get? b = some ob) (n : H b = none) (hx : b ∉ ex) : ∃ sl, h1.get? b = some { ob with slots := sl } := by
  by_cases hb : b ∈ fs
  · exact u.slot b ob q n hb hx
  · exact ⟨ob.slots, u.keep b ob q n hb hx⟩
theorem Un.trans (a : Un fs ex H H1 h h1) (b : Un fs ex H1 H2 h1 h2) : Un fs ex H H2 h h2 where
  keep := fun c ob q n hc hx => b.keep c ob (a.keep c ob q n hc hx) (a.free c ob q n hx) hc hx
  slot := fun c ob q n hc hx => by
    obtain ⟨sl, e1⟩ := a.slot c ob q n hc hx
    obtain ⟨sl', e2⟩ := b.slot c _ e1 (a.free c ob q n hx) hc hx
    exact ⟨sl', e2⟩
  free := fun c ob q n hx => by
    obtain ⟨o', e1⟩ := a.there c ob q hx
    exact b.free c o' e1 (a.free c ob q n hx) hx
  there := fun c ob q hx => by
    obtain ⟨o', e1⟩ := a.there c ob q hx
    exact b.there c o' e1 hx
  tups := fun c xs q => b.tups c xs (a.tups c xs q)
  frzs := fun c ob xs q => b.frzs c ob xs (a.frzs c ob xs q)
  tbls := fun c ps q => by
    obtain ⟨m1, e1⟩ := a.tbls c ps q
    obtain ⟨m2, e2⟩ := b.tbls c _ e1
    exact ⟨m1 ++ m2, by rw [e2, Array.append_assoc]⟩
theorem Un.kept (k : ∀ b u, h.get? b = some u → h'.get? b = some u) : Un fs ex H H h h' :=
  ⟨fun b ob q _ _ _ => k b ob q, fun b ob q _ _ _ => ⟨ob.slots, k b ob q⟩, fun _ _ _ n _ => n, fun b ob q _ => ⟨ob, k b ob q⟩, fun _ _ q => q, fun _ _ _ q => q, fun _ ps q => ⟨#[], by rw [q]; simp⟩⟩
theorem Un.refl : Un fs ex H H h h := Un.kept fun _ _ q => q
theorem Un.laid (k : ∀ b u, h.get? b = some u → h'.get? b = some u) (hp : h.objs.size ≤ a) (hn : H a = none) : Un fs ex H (upd H a o) h h' where
  keep := fun b u q _ _ _ => k b u q
  slot := fun b u q _ _ _ => ⟨u.slots, k b u q⟩
  free := fun b u q n _ => by rw [upd_ne (Nat.ne_of_lt (Nat.lt_of_lt_of_le (Heap.lt_size q) hp))]; exact n
  there := fun b u q _ => ⟨u, k b u q⟩
  tups := fun b xs q => by rw [upd_ne (ne_of_none q hn)]; exact q
  frzs := fun b u xs q => by rw [upd_ne (ne_of_none q hn)]; exact q
  tbls := fun b ps q => ⟨#[], by rw [upd_ne (ne_of_none q hn), q]; simp⟩
theorem Un.write (mu : Mut (H x)) (he : e = x ∨ H e = some (.own x)) (k : ∀ b u, b ≠ e → h.get? b = some u → h'.get? b = some u) (heo : ∃ u, h'.get? e = some u) : Un fs ex H (upd H x o) h h' := by
  have hx : ∀ b, H b = none → b ≠ x := fun b n z => by subst z; rw [n] at mu; exact mu
  have hb : ∀ b, H b = none → b ≠ e := fun b n z => by
    subst z
    rcases he with r | r
    · exact hx b n r
    · rw [n] at r; cases r
  have hm : ∀ b u, H b = some u → ¬ Mut (some u) → b ≠ x := fun b u q nm z => by subst z; rw [q] at mu; exact nm mu
  refine ⟨fun b u q n _ _ => k b u (hb b n) q, fun b u q n _ _ => ⟨u.slots, k b u (hb b n) q⟩, fun b u q n _ => by rw [upd_ne (hx b n)]; exact n, fun b u q _ => ?_,
    fun b xs q => by rw [upd_ne (hm b _ q fun z => z)]; exact q, fun b u xs q => by rw [upd_ne (hm b _ q fun z => z)]; exact q, fun b ps q => ⟨#[], by rw [upd_ne (hm b _ q fun z => z), q]; simp⟩⟩
  by_cases hbe : b = e
  · subst hbe; exact heo
  · exact ⟨u, k b u hbe q⟩
theorem Un.mono (u : Un fs ex H H1 h h1) (hs : ∀ b ∈ fs, b ∈ fs') (hx : ∀ b ∈ ex, b ∈ ex') : Un fs' ex' H H1 h h1 :=
  ⟨fun b ob q n hb he => u.keep b ob q n (fun z => hb (hs b z)) fun z => he (hx b z), fun _ _ q n _ he => u.any q n fun z => he (hx _ z), fun b ob q n he => u.free b ob q n fun z => he (hx b z), fun b ob q he => u.there b ob q fun z => he (hx b z), u.tups, u.frzs, u.tbls⟩
end
def trk (h : Heap) (H : Hp) : List Addr := (List.range h.objs.size).filter fun a => (H a).isSome
def hidT (h : Heap) (H : Hp) : Heap := PySem.W.hideAll h (trk h H)
theorem hidT_size (h : Heap) (H : Hp) : (hidT h H).objs.size = h.objs.size := PySem.W.hideAll_size _ _
theorem hidT_get {h : Heap} {H : Hp} {b : Addr} {o : Obj} (e : h.get? b = some o) (n : H b = none) : (hidT h H).get? b = some o :=
  PySem.W.hideAll_get _ e fun hm => by
    have q : (H b).isSome = true := (List.mem_filter.mp hm).2
    rw [n] at q; simp at q
theorem of_hidT {h : Heap} {H : Hp} {b : Addr} {o : Obj} (e : (hidT h H).get? b = some o) : h.get? b = some o ∧ H b = none := by
  have e' : h.get? b = some o := PySem.W.of_hideAll (trk h H) e
  refine ⟨e', ?_⟩
  cases q : H b with
  | none => rfl
  | some x =>
    have hm : b ∈ trk h H := List.mem_filter.mpr ⟨List.mem_range.mpr (Heap.lt_size e'), by simp [q]⟩
    have z : (hidT h H).get? b = none := PySem.W.hideAll_none (trk h H) hm
    rw [z] at e; cases e
def allNews (g h : Heap) (L : Addr) : List (Addr × Obj) := (List.range h.objs.size).filterMap fun a => if a = L ∨ (g.get? a).isSome = true then none else (h.get? a).map fun o => (a, o)
theorem mem_allNews {g h : Heap} {L a : Addr} {o : Obj} (h1 : a ≠ L) (h2 : g.get? a = none) (h3 : h.get? a = some o) : (a, o) ∈ allNews g h L :=
  List.mem_filterMap.mpr ⟨a, List.mem_range.mpr (Heap.lt_size h3), by simp [h1, h2, h3]⟩
theorem of_mem_allNews {g h : Heap} {L : Addr} {p : Addr × Obj} (hp : p ∈ allNews g h L) : p.1 ≠ L ∧ g.get? p.1 = none ∧ h.get? p.1 = some p.2 := by
  obtain ⟨b, _, e⟩ := List.mem_filterMap.mp hp
  split at e
  · cases e
  · rename_i hn
    cases q : h.get? b with
    | none => rw [q] at e; simp at e
    | some u =>
      rw [q] at e
      simp only [Option.map_some, Option.some.injEq] at e
      subst e
      refine ⟨fun z => hn (.inl z), ?_, q⟩
      show g.get? b = none
      cases r : g.get? b with
      | none => rfl
      | some v => exact (hn (.inr (by simp [r]))).elim
def rest (g h : Heap) (L d : Addr) : List (Addr × Obj) := (allNews g h L).filter fun p => decide (p.1 ≠ d)
theorem rest_ne {g h : Heap} {L d : Addr} : ∀ p ∈ rest g h L d, p.1 ≠ d := fun p hp => of_decide_eq_true (List.mem_filter.mp hp).2
theorem mem_rest {g h : Heap} {L d a : Addr} {o : Obj} (h1 : a ≠ L) (h2 : g.get? a = none) (h3 : h.get? a = some o) (h4 : a ≠ d) : (a, o) ∈ rest g h L d :=
  List.mem_filter.mpr ⟨mem_allNews h1 h2 h3, decide_eq_true h4⟩
theorem news_all {g h : Heap} {L : Addr} : News g L h (allNews g h L) := fun p hp => let ⟨a, b, c⟩ := of_mem_allNews hp; ⟨c, a, b⟩
theorem news_at {g h : Heap} {L d : Addr} {o : Obj} (h1 : d ≠ L) (h2 : g.get? d = none) (h3 : h.get? d = some o) : News g L h ((d, o) :: rest g h L d) := fun p hp => by
  rcases List.mem_cons.mp hp with rfl | hp
  · exact ⟨h3, h1, h2⟩
  · exact news_all p (List.mem_filter.mp hp).1
theorem kept_of_news {g h h' : Heap} {L d : Addr} {m : Str → Option Value} (k : ∀ b o, g.get? b = some o → h.get? b = some o) (F : Fr g L h' m) (N : News g L h' (rest g h L d)) :
    ∀ b o, b ≠ L → b ≠ d → h.get? b = some o → h'.get? b = some o := fun b o h1 h2 e => by
  cases q : g.get? b with
  | some u =>
    have := k b u q
    rw [e] at this; cases this
    exact F.keep b _ q
  | none => exact (N (b, o) (mem_rest h1 q e h2)).1
end L2
namespace L2
open PySem PySem.Spec PyProof.Rows
structure Mod (K : PySem.W.Frag) (mg : Str → Option Value) (base : Heap) : Prop where
  kin : K.In base
  glob : base.Ns mainGlobals mg
  blt : ∃ mb, base.Ns builtinsNs mb ∧ ∀ x : Str, x ≠ "__name__" → mb x = bootBuiltins x
  nolimit : base.NoLimit
/-- the context: a def's body (or a comprehension's block) running. base: fixed through the whole law; s₀, H₀: the entry; outer: the frames whose slots others may change (a def's callers); stack: all frames that run;
   ex: iterators that were made ahead of the entry and are walked here (a comprehension's); fn: the names whose cells were made at the entry (a def: all; a comprehension's block: its own); calm: not within an except suite; pn: pins that every state bears; xe: what is wanted of an exception that leaves the code -/
structure Cx where
  prog : Program
  w : World
  K : PySem.W.Frag
  mg : Str → Option Value
  base : Heap
  A : Around
  N : List Str
  s₀ : Shared
  H₀ : Hp
  env : Env
  outer : List Env
  stack : List Env
  ex : List Addr
  fn : Str → Bool
  calm : Bool
  pn : List (Addr × Obj)
  xe : Value → Shared → Prop
def frs (l : List Env) : List Addr := l.filterMap (·.frame)
abbrev Cx.fs (X : Cx) : List Addr := frs X.outer
def Vis (sc : Scope) (x : Str) : Prop := sc.names.lookup x = some .local ∨ sc.names.lookup x = some .cell ∨ sc.names.lookup x = some .free
def Loc (sc : Scope) (x : Str) : Prop := sc.names.lookup x = some .local ∨ sc.names.lookup x = some .cell
def Look (env : Env) (h : Heap) (m : Str → Option Value) (x : Str) (u : Value) : Prop :=
  (env.kindOf x = some .local ∧ m x = some u) ∨ ((env.kindOf x = some .cell ∨ env.kindOf x = some .free) ∧ ∃ c, env.cells.lookup x = some c ∧ h.IsCell c (some u))
structure Cx.Ok (X : Cx) : Prop where
  mod : Mod X.K X.mg X.base
  kind : X.env.scope.kind = .function
  glob : X.env.globals = mainGlobals
  blt : X.env.builtins = builtinsNs
  above : X.s₀.heap.objs.size ≤ X.env.locals
  inj : ∀ x y c, X.env.cells.lookup x = some c → X.env.cells.lookup y = some c → x = y
  has : ∀ x, (X.env.kindOf x = some .cell ∨ X.env.kindOf x = some .free) → ∃ c, X.env.cells.lookup x = some c
  cab : ∀ x c, X.fn x = true → X.env.cells.lookup x = some c → X.s₀.heap.objs.size ≤ c
  hd : X.calm = true → X.A.handled = none
  frames : X.A.frames = some X.stack
  stk : X.stack = X.outer ∨ (X.stack = X.env :: X.outer ∧ X.env.frame = some X.env.locals)
  exf : ∀ b ∈ X.ex, b ≠ X.env.locals ∧ ∀ x c, X.env.cells.lookup x = some c → c ≠ b
  bs : ∀ b o, X.base.get? b = some o → X.s₀.heap.get? b = some o ∧ X.H₀ b = none
  bsz : X.base.objs.size ≤ X.s₀.heap.objs.size
  noex : ∀ b o, X.base.get? b = some o → b ∉ X.ex
  exfs : ∀ b ∈ X.ex, b ∉ X.fs
  funs : X.s₀.heap.FunFrames X.base X.outer
  frf : ∀ b ∈ X.fs, X.H₀ b = none
structure Inv (X : Cx) (pins : List (Addr × Obj)) (σ : List (Option V)) (H : Hp) (s : Shared) : Prop where
  ok : X.Ok
  os : s.os = X.s₀.os
  bare : AllBare s.gens
  base : Un X.fs X.ex X.H₀ H X.s₀.heap s.heap
  loc : ∃ m, s.heap.Ns X.env.locals m ∧ ∀ (i : Nat) (x : Str) (v : V), X.N[i]? = some x → σ[i]? = some (some v) → Vis X.env.scope x → ∃ u, RelV v u ∧ Look X.env s.heap m x u
  cell : ∀ x c, X.env.cells.lookup x = some c → ∃ v, s.heap.IsCell c v
  free : H X.env.locals = none
  freeC : ∀ x c, X.env.cells.lookup x = some c → H c = none
  pin : ∀ p ∈ X.pn ++ pins, s.heap.get? p.1 = some p.2 ∧ H p.1 = none ∧ p.1 ≠ X.env.locals ∧ p.1 ∉ X.fs ∧ ∀ v, p.2.data ≠ .cell v
  hok : HOk X.prog X.w H s.heap
  len : σ.length = X.N.length
section
variable {X : Cx} {pins : List (Addr × Obj)} {σ : List (Option V)} {H H' : Hp} {s : Shared} {h' : Heap}
theorem Cx.Ok.nofr (ok : X.Ok) {b : Addr} {o : Obj} (e : X.base.get? b = some o) : b ∉ X.fs := fun hb => by
  have := (ok.funs.mem hb).1
  rw [e] at this; cases this
theorem Inv.bs (I : Inv X pins σ H s) : ∀ b o, X.base.get? b = some o → s.heap.get? b = some o ∧ H b = none := fun b o e =>
  ⟨I.base.keep b o (I.ok.bs b o e).1 (I.ok.bs b o e).2 (I.ok.nofr e) (I.ok.noex b o e), I.base.free b o (I.ok.bs b o e).1 (I.ok.bs b o e).2 (I.ok.noex b o e)⟩
theorem Inv.bk (I : Inv X pins σ H s) : ∀ b o, X.base.get? b = some o → s.heap.get? b = some o := fun b o e => (I.bs b o e).1
theorem Inv.mod (I : Inv X pins σ H s) : Mod X.K X.mg X.base := I.ok.mod
theorem Inv.kIn (I : Inv X pins σ H s) : X.K.In s.heap := I.ok.mod.kin.keeps I.bk
theorem Inv.nolimit (I : Inv X pins σ H s) : s.heap.NoLimit := I.ok.mod.nolimit.keeps I.bk
theorem Inv.fr (I : Inv X pins σ H s) : ∃ m, Fr X.base X.env.locals s.heap m :=
  let ⟨m, hn, _⟩ := I.loc
  ⟨m, hn, I.bk, Nat.le_trans I.ok.bsz I.ok.above⟩
theorem Inv.lt (I : Inv X pins σ H s) : X.env.locals < s.heap.objs.size := let ⟨_, hn, _⟩ := I.loc; hn.lt
theorem Inv.sz (I : Inv X pins σ H s) : X.s₀.heap.objs.size ≤ s.heap.objs.size := Nat.le_trans I.ok.above (Nat.le_of_lt I.lt)
theorem Inv.nofs (I : Inv X pins σ H s) {a : Addr} (h : s.heap.objs.size ≤ a) : a ∉ X.fs := fun hb => by
  obtain ⟨_, o, ho, _⟩ := I.ok.funs.mem hb
  exact absurd (Nat.lt_of_lt_of_le (Heap.lt_size ho) (Nat.le_trans I.sz h)) (Nat.lt_irrefl _)
theorem Inv.cne (I : Inv X pins σ H s) : ∀ x c, X.env.cells.lookup x = some c → c ≠ X.env.locals := fun x c e z => by
  obtain ⟨v, o, ho, hd⟩ := I.cell x c e
  obtain ⟨m, ⟨o', es, ep, ho', hd', _⟩, _⟩ := I.loc
  rw [z, ho'] at ho; cases ho; rw [hd'] at hd; cases hd
theorem Inv.funs (I : Inv X pins σ H s) : s.heap.FunFrames X.base X.outer := by
  have all : ∀ (l : List Env), (∀ b ∈ frs l, b ∈ X.fs) → X.s₀.heap.FunFrames X.base l → s.heap.FunFrames X.base l := by
    intro l
    induction l with
    | nil => intro _ _; trivial
    | cons env r ih =>
      intro hs hl
      obtain ⟨hk, ⟨L, o, hf, hn, ho, hd⟩, hr⟩ := hl
      have hL : L ∈ X.fs := hs L (by unfold frs; rw [List.filterMap_cons, hf]; exact List.mem_cons_self)
      obtain ⟨sl, e⟩ := I.base.slot L o ho (I.ok.frf L hL) hL fun z => I.ok.exfs L z hL
      exact ⟨hk, ⟨L, _, hf, hn, e, hd⟩, ih (fun b hb => hs b (by unfold frs; rw [List.filterMap_cons, hf]; exact List.mem_cons_of_mem _ hb)) hr⟩
  exact all X.outer (fun _ hb => hb) I.ok.funs
theorem Inv.stack (I : Inv X pins σ H s) : s.heap.FunFrames X.base X.stack := by
  rcases I.ok.stk with e | ⟨e, hf⟩
  · rw [e]; exact I.funs
  · rw [e]
    obtain ⟨m, hn, _⟩ := I.loc
    refine .cons (by rw [I.ok.kind]; decide) hf hn ?_ I.funs
    exact Heap.get?_none_of_le (Nat.le_trans I.ok.bsz I.ok.above)
theorem Inv.stkSub (I : Inv X pins σ H s) : ∀ b ∈ frs X.stack, b ∈ X.env.locals :: X.fs := fun b hb => by
  rcases I.ok.stk with e | ⟨e, hf⟩
  · rw [e] at hb; exact List.mem_cons_of_mem _ hb
  · rw [e] at hb
    unfold frs at hb
    rw [List.filterMap_cons, hf] at hb
    exact hb
theorem Inv.stkFree (I : Inv X pins σ H s) : ∀ b ∈ frs X.stack, H b = none := fun b hb => by
  rcases List.mem_cons.mp (I.stkSub b hb) with e | hb
  · rw [e]; exact I.free
  · obtain ⟨_, o, ho, _⟩ := I.ok.funs.mem hb
    exact I.base.free b o ho (I.ok.frf b hb) fun z => I.ok.exfs b z hb
theorem Inv.step {g' : Array GenState} {t' : Nat} {d' : Drawn} {ch : List Addr} (I : Inv X pins σ H s)
    (hch : ∀ b ∈ ch, (b ∈ X.ex ∨ X.s₀.heap.objs.size ≤ b) ∧ b ≠ X.env.locals ∧ (∀ x c, X.env.cells.lookup x = some c → c ≠ b) ∧ ∀ p ∈ X.pn ++ pins, p.1 ≠ b)
    (keep : ∀ b o, b ≠ X.env.locals → b ∉ X.fs → b ∉ ch → s.heap.get? b = some o → H b = none → h'.get? b = some o)
    (slot : ∀ b o, b ≠ X.env.locals → b ∈ X.fs → b ∉ ch → s.heap.get? b = some o → H b = none → ∃ sl, h'.get? b = some { o with slots := sl }) (free : ∀ b o, b ∉ ch → s.heap.get? b = some o → H b = none → H' b = none)
    (there : ∀ b o, b ∉ ch → s.heap.get? b = some o → ∃ o', h'.get? b = some o')
    (tups : ∀ b xs, H b = some (.tup xs) → H' b = some (.tup xs)) (frzs : ∀ b o u, H b = some (.frz o u) → H' b = some (.frz o u)) (tbls : ∀ b ps, H b = some (.tbl ps) → ∃ more, H' b = some (.tbl (ps ++ more)))
    (ns : ∀ m, s.heap.Ns X.env.locals m → h'.Ns X.env.locals m) (hok : HOk X.prog X.w H' h') (hg : AllBare g') :
    Inv X pins σ H' { s with heap := h', gens := g', drawn := d', toks := t' } := by
  have neL : ∀ b o, X.s₀.heap.get? b = some o → b ≠ X.env.locals := fun b o e => Nat.ne_of_lt (Nat.lt_of_lt_of_le (Heap.lt_size e) I.ok.above)
  have neC : ∀ b o, X.s₀.heap.get? b = some o → b ∉ X.ex → b ∉ ch := fun b o e hx hb => by
    rcases (hch b hb).1 with z | z
    · exact hx z
    · exact absurd (Nat.lt_of_lt_of_le (Heap.lt_size e) z) (Nat.lt_irrefl _)
  have cellK : ∀ x c, X.env.cells.lookup x = some c → ∀ v, s.heap.IsCell c v → h'.IsCell c v := fun x c e v ⟨o, ho, hd⟩ => by
    have nch : c ∉ ch := fun z => (hch c z).2.2.1 x c e rfl
    by_cases hc : c ∈ X.fs
    · obtain ⟨sl, q⟩ := slot c o (I.cne x c e) hc nch ho (I.freeC x c e)
      exact ⟨_, q, hd⟩
    · exact ⟨o, keep c o (I.cne x c e) hc nch ho (I.freeC x c e), hd⟩
  refine ⟨I.ok, I.os, hg, ⟨fun b o e n hb hx => ?_, fun b o e n hb hx => ?_, fun b o e n hx => ?_, fun b o e hx => ?_, fun b xs e => tups b xs (I.base.tups b xs e), fun b o xs e => frzs b o xs (I.base.frzs b o xs e), fun b ps e => ?_⟩, ?_, fun x c e => ?_, ?_, fun x c e => ?_, fun p hp => ?_, hok, I.len⟩
  · exact keep b o (neL b o e) hb (neC b o e hx) (I.base.keep b o e n hb hx) (I.base.free b o e n hx)
  · obtain ⟨sl, e1⟩ := I.base.slot b o e n hb hx
    obtain ⟨sl', e2⟩ := slot b _ (neL b o e) hb (neC b o e hx) e1 (I.base.free b o e n hx)
    exact ⟨sl', e2⟩
  · obtain ⟨o', e1⟩ := I.base.there b o e hx
    exact free b o' (neC b o e hx) e1 (I.base.free b o e n hx)
  · obtain ⟨o', e1⟩ := I.base.there b o e hx
    exact there b o' (neC b o e hx) e1
  · obtain ⟨m1, e1⟩ := I.base.tbls b ps e
    obtain ⟨m2, e2⟩ := tbls b _ e1
    exact ⟨m1 ++ m2, by rw [e2, Array.append_assoc]⟩
  · obtain ⟨m, hn, hl⟩ := I.loc
    refine ⟨m, ns m hn, fun i x v e1 e2 e3 => ?_⟩
    obtain ⟨u, r, l⟩ := hl i x v e1 e2 e3
    refine ⟨u, r, ?_⟩
    rcases l with l | ⟨k, c, e, z⟩
    · exact .inl l
    · exact .inr ⟨k, c, e, cellK x c e _ z⟩
  · obtain ⟨v, z⟩ := I.cell x c e
    exact ⟨v, cellK x c e v z⟩
  · obtain ⟨m, ⟨o, _, _, ho, _⟩, _⟩ := I.loc
    exact free _ o (fun z => (hch _ z).2.1 rfl) ho I.free
  · obtain ⟨v, o, ho, hd⟩ := I.cell x c e
    exact free c o (fun z => (hch c z).2.2.1 x c e rfl) ho (I.freeC x c e)
  · obtain ⟨e, n, ne, nf, d⟩ := I.pin p hp
    have nch : p.1 ∉ ch := fun z => (hch p.1 z).2.2.2 p hp rfl
    exact ⟨keep p.1 p.2 ne nf nch e n, free p.1 p.2 nch e n, ne, nf, d⟩
theorem Inv.un {t' : Nat} (I : Inv X pins σ H s) (u : Un X.fs [] H H' s.heap h') (hok : HOk X.prog X.w H' h') : Inv X pins σ H' { s with heap := h', toks := t' } := by
  obtain ⟨m, ⟨o, es, ep, ho, r⟩, _⟩ := id I.loc
  obtain ⟨sl, hL⟩ := u.any ho I.free (by simp)
  exact I.step (g' := s.gens) (d' := s.drawn) (ch := []) (fun _ z => nomatch z) (fun b o _ hb _ e n => u.keep b o e n hb (by simp)) (fun b o _ hb _ e n => u.slot b o e n hb (by simp)) (fun b o _ e n => u.free b o e n (by simp)) (fun b o _ e => u.there b o e (by simp)) u.tups u.frzs u.tbls (fun m' hm => by
    obtain ⟨o', es', ep', ho', r'⟩ := hm
    rw [ho] at ho'; cases ho'
    exact ⟨_, es', ep', hL, r'⟩) hok I.bare
theorem Inv.call {g' : Array GenState} {t' : Nat} {d' : Drawn} {ch : List Addr} (I : Inv X pins σ H s) (u : Un (frs X.stack) ch H H' s.heap h') (hok : HOk X.prog X.w H' h') (hg : AllBare g')
    (hch : ∀ b ∈ ch, (b ∈ X.ex ∨ X.s₀.heap.objs.size ≤ b) ∧ b ≠ X.env.locals ∧ (∀ x c, X.env.cells.lookup x = some c → c ≠ b) ∧ ∀ p ∈ X.pn ++ pins, p.1 ≠ b) :
    Inv X pins σ H' { s with heap := h', gens := g', drawn := d', toks := t' } := by
  obtain ⟨m, ⟨o, es, ep, ho, r⟩, _⟩ := id I.loc
  obtain ⟨sl, hL⟩ := u.any ho I.free fun z => (hch _ z).2.1 rfl
  exact I.step (ch := ch) hch (fun b o hL hb hc e n => u.keep b o e n (fun z => (List.mem_cons.mp (I.stkSub b z)).elim hL hb) hc) (fun b o _ _ hc e n => u.any e n hc) (fun b o hc e n => u.free b o e n hc) (fun b o hc e => u.there b o e hc) u.tups u.frzs u.tbls (fun m' hm => by
    obtain ⟨o', es', ep', ho', r'⟩ := hm
    rw [ho] at ho'; cases ho'
    exact ⟨_, es', ep', hL, r'⟩) hok hg
theorem Inv.turned {t' : Nat} {it : Addr} (I : Inv X pins σ H s) (k : ∀ b o, b ≠ it → s.heap.get? b = some o → h'.get? b = some o) (hn : H it = none) (hL : it ≠ X.env.locals)
    (h1 : it ∈ X.ex ∨ X.s₀.heap.objs.size ≤ it) (h2 : ∀ x c, X.env.cells.lookup x = some c → c ≠ it) (h3 : ∀ p ∈ X.pn ++ pins, p.1 ≠ it) : Inv X pins σ H { s with heap := h', toks := t' } := by
  have nit : ∀ b u, H b = some u → b ≠ it := fun b u e z => by rw [z, hn] at e; cases e
  refine I.step (g' := s.gens) (d' := s.drawn) (ch := [it]) (fun b hb => ?_) (fun b o _ _ hc e _ => k b o (fun z => hc (by simp [z])) e) (fun b o _ _ hc e _ => ⟨o.slots, k b o (fun z => hc (by simp [z])) e⟩) (fun _ _ _ _ n => n)
    (fun b o hc e => ⟨o, k b o (fun z => hc (by simp [z])) e⟩) (fun _ _ e => e) (fun _ _ _ e => e) (fun b ps e => ⟨#[], by rw [e]; simp⟩) (fun m hm => ?_) (fun b u e => ?_) I.bare
  · have e : b = it := by simpa using hb
    subst e
    exact ⟨h1, hL, h2, h3⟩
  · obtain ⟨o, es, ep, ho, r⟩ := hm
    exact ⟨o, es, ep, k _ o (Ne.symm hL) ho, r⟩
  · refine (I.hok b u e).stay (fun c v hc q => k c v ?_ q) (fun _ q => q) fun _ _ q => q
    rcases hc with z | z
    · rw [z]; exact nit b u e
    · exact nit c _ z
theorem Inv.tok (I : Inv X pins σ H s) (t : Nat) : Inv X pins σ H { s with toks := t } := I.un (h' := s.heap) (t' := t) Un.refl I.hok
theorem Inv.kept {t' : Nat} (I : Inv X pins σ H s) (k : ∀ b u, s.heap.get? b = some u → h'.get? b = some u) : Inv X pins σ H { s with heap := h', toks := t' } := I.un (Un.kept k) (I.hok.kept k)
theorem Inv.laid {a : Addr} {o : HO} {t' : Nat} (I : Inv X pins σ H s) (k : ∀ b u, s.heap.get? b = some u → h'.get? b = some u) (hp : s.heap.objs.size ≤ a) (new : ObjOk X.prog X.w (upd H a o) h' a o) :
    Inv X pins σ (upd H a o) { s with heap := h', toks := t' } := I.un (Un.laid k hp (I.hok.fresh hp)) (I.hok.laid k hp new)
theorem Inv.write {x e : Addr} {o : HO} {t' : Nat} (I : Inv X pins σ H s) (mu : Mut (H x)) (he : e = x ∨ H e = some (.own x)) (k : ∀ b u, b ≠ e → s.heap.get? b = some u → h'.get? b = some u) (heo : ∃ u, h'.get? e = some u)
    (new : ObjOk X.prog X.w (upd H x o) h' x o) : Inv X pins σ (upd H x o) { s with heap := h', toks := t' } := I.un (Un.write mu he k heo) (I.hok.write mu he k heo new)
theorem Inv.weak {σ' : List (Option V)} (I : Inv X pins σ H s) (hl : σ'.length = σ.length) (w : ∀ (i : Nat) v, σ'[i]? = some (some v) → σ[i]? = some (some v)) : Inv X pins σ' H s :=
  ⟨I.ok, I.os, I.bare, I.base, let ⟨m, hn, hl'⟩ := I.loc; ⟨m, hn, fun i x v e1 e2 e3 => hl' i x v e1 (w i v e2) e3⟩, I.cell, I.free, I.freeC, I.pin, I.hok, hl.trans I.len⟩
theorem Inv.pins_of {pins' : List (Addr × Obj)} (I : Inv X pins σ H s) (h : ∀ p ∈ pins', s.heap.get? p.1 = some p.2 ∧ H p.1 = none ∧ p.1 ≠ X.env.locals ∧ p.1 ∉ X.fs ∧ ∀ v, p.2.data ≠ .cell v) : Inv X pins' σ H s :=
  ⟨I.ok, I.os, I.bare, I.base, I.loc, I.cell, I.free, I.freeC, fun p hp => (List.mem_append.mp hp).elim (fun z => I.pin p (List.mem_append_left _ z)) (h p), I.hok, I.len⟩
theorem nodup_ix {N : List Str} (hN : N.Nodup) {i j : Nat} {x : Str} (a : N[i]? = some x) (b : N[j]? = some x) : i = j := by
  obtain ⟨h1, e1⟩ := List.getElem?_eq_some_iff.mp a
  obtain ⟨h2, e2⟩ := List.getElem?_eq_some_iff.mp b
  exact (List.getElem_inj hN).mp (e1.trans e2.symm)
theorem store_ok2 {M : Model} {A : Around} {E : Value → Shared → Prop} {i : Nat} {x : Str} {v : V} {u : Value} {Q : Unit → Shared → Prop} (I : Inv X pins σ H s) (hN : X.N.Nodup) (hi : X.N[i]? = some x) (hx : Loc X.env.scope x) (r : RelV v u)
    (h : ∀ s', Inv X pins (σ.set i (some v)) H s' → (∃ a, Heap.SameBut a s.heap s'.heap ∧ (a = X.env.locals ∨ X.env.cells.lookup x = some a)) → Q () s') (hf : X.fn x = true ∨ X.env.scope.names.lookup x = some .local := by first | exact .inl rfl | exact .inr rfl | assumption) : wpAny M A (storeName X.env x u) Q E s := by
  obtain ⟨m, hn, hl⟩ := id I.loc
  have hcls : (X.env.scope.kind == .class || (X.env.scope.kind == .module && X.env.locals != X.env.globals)) = false := by rw [I.ok.kind]; rfl
  have hiσ : i < σ.length := by rw [I.len]; exact (List.getElem?_eq_some_iff.mp hi).1
  have cne := I.cne
  have tracked : ∀ {a : Addr} {h' : Heap}, (∃ o, s.heap.get? a = some o ∧ H a = none) → Heap.SameBut a s.heap h' → HOk X.prog X.w H h' := fun {a h'} ha hs b ob e => by
    obtain ⟨_, _, hfree⟩ := ha
    refine (I.hok b ob e).stay (fun c w' hc q => (hs.2 c ?_).trans q) (fun _ q => q) fun _ _ q => q
    rintro rfl
    rcases hc with rfl | hc
    · rw [hfree] at e; cases e
    · rw [hfree] at hc; cases hc
  rcases hx with hk | hk
  · refine wpAny_storeName_local hk hn (fun h' hn' hs => ?_) hcls
    obtain ⟨oL, _, _, hoL, _⟩ := id hn
    refine h _ ⟨I.ok, I.os, I.bare, ⟨fun b o e n hb hx => ?_, fun b o e n hb hx => ?_, I.base.free, fun b o e hx => ?_, I.base.tups, I.base.frzs, I.base.tbls⟩, ⟨_, hn', fun j y v' e1 e2 e3 => ?_⟩, fun y c e => ?_, I.free, I.freeC, fun p hp => ?_, tracked ⟨oL, hoL, I.free⟩ hs, by simpa using I.len⟩ ⟨_, hs, .inl rfl⟩
    · exact (hs.2 b (Nat.ne_of_lt (Nat.lt_of_lt_of_le (Heap.lt_size e) I.ok.above))).trans (I.base.keep b o e n hb hx)
    · obtain ⟨sl, e1⟩ := I.base.slot b o e n hb hx
      exact ⟨sl, (hs.2 b (Nat.ne_of_lt (Nat.lt_of_lt_of_le (Heap.lt_size e) I.ok.above))).trans e1⟩
    · obtain ⟨o', e1⟩ := I.base.there b o e hx
      exact ⟨o', (hs.2 b (Nat.ne_of_lt (Nat.lt_of_lt_of_le (Heap.lt_size e) I.ok.above))).trans e1⟩
    · by_cases hj : j = i
      · subst hj
        rw [hi] at e1; cases e1
        rw [List.getElem?_set_self hiσ] at e2
        cases e2
        exact ⟨u, r, .inl ⟨hk, by simp⟩⟩
      · rw [List.getElem?_set_ne (Ne.symm hj)] at e2
        obtain ⟨u', r', q⟩ := hl j y v' e1 e2 e3
        refine ⟨u', r', ?_⟩
        rcases q with ⟨k, e⟩ | ⟨k, c, e, z⟩
        · refine .inl ⟨k, ?_⟩
          have : y ≠ x := fun e => hj (nodup_ix hN e1 (e ▸ hi))
          simp [this, e]
        · exact .inr ⟨k, c, e, z.sameBut hs (cne y c e)⟩
    · obtain ⟨w', z⟩ := I.cell y c e
      exact ⟨w', z.sameBut hs (cne y c e)⟩
    · obtain ⟨e, n, ne, nf, d⟩ := I.pin p hp
      exact ⟨(hs.2 p.1 ne).trans e, n, ne, nf, d⟩
  · have hfn : X.fn x = true := by
      rcases hf with z | z
      · exact z
      · rw [z] at hk; cases hk
    obtain ⟨c, hc⟩ := I.ok.has x (.inl hk)
    obtain ⟨w', z⟩ := I.cell x c hc
    refine wpAny_storeName_cell I.ok.kind hk hc z (fun h' hc' hs => ?_)
    obtain ⟨oc, hoc, hocd⟩ := id z
    refine h { s with heap := h' } ⟨I.ok, I.os, I.bare, ⟨fun b o e n hb hx => ?_, fun b o e n hb hx => ?_, I.base.free, fun b o e hx => ?_, I.base.tups, I.base.frzs, I.base.tbls⟩, ⟨m, hn.sameBut hs (Ne.symm (cne x c hc)), fun j y v' e1 e2 e3 => ?_⟩, fun y c' e => ?_, I.free, I.freeC, fun p hp => ?_, tracked ⟨oc, hoc, I.freeC x c hc⟩ hs, by simpa using I.len⟩ ⟨c, hs, .inr hc⟩
    · exact (hs.2 b (Nat.ne_of_lt (Nat.lt_of_lt_of_le (Heap.lt_size e) (I.ok.cab x c hfn hc)))).trans (I.base.keep b o e n hb hx)
    · obtain ⟨sl, e1⟩ := I.base.slot b o e n hb hx
      exact ⟨sl, (hs.2 b (Nat.ne_of_lt (Nat.lt_of_lt_of_le (Heap.lt_size e) (I.ok.cab x c hfn hc)))).trans e1⟩
    · obtain ⟨o', e1⟩ := I.base.there b o e hx
      exact ⟨o', (hs.2 b (Nat.ne_of_lt (Nat.lt_of_lt_of_le (Heap.lt_size e) (I.ok.cab x c hfn hc)))).trans e1⟩
    · by_cases hj : j = i
      · subst hj
        rw [hi] at e1; cases e1
        rw [List.getElem?_set_self hiσ] at e2
        cases e2
        exact ⟨u, r, .inr ⟨.inl hk, c, hc, hc'⟩⟩
      · rw [List.getElem?_set_ne (Ne.symm hj)] at e2
        obtain ⟨u', r', q⟩ := hl j y v' e1 e2 e3
        refine ⟨u', r', ?_⟩
        rcases q with q | ⟨k, c', e, z'⟩
        · exact .inl q
        · refine .inr ⟨k, c', e, z'.sameBut hs ?_⟩
          rintro rfl
          exact hj (nodup_ix hN e1 (I.ok.inj _ _ _ e hc ▸ hi))
    · by_cases hcc : c' = c
      · subst hcc; exact ⟨_, hc'⟩
      · obtain ⟨w2, z2⟩ := I.cell y c' e
        exact ⟨w2, z2.sameBut hs hcc⟩
    · obtain ⟨e, n, ne, nf, d⟩ := I.pin p hp
      refine ⟨(hs.2 p.1 ?_).trans e, n, ne, nf, d⟩
      intro q
      rw [q, hoc] at e
      have q' : oc = p.2 := Option.some.inj e
      exact d w' (by rw [← q']; exact hocd)
theorem store_ok {M : Model} {A : Around} {E : Value → Shared → Prop} {i : Nat} {x : Str} {v : V} {u : Value} {Q : Unit → Shared → Prop} (I : Inv X pins σ H s) (hN : X.N.Nodup) (hi : X.N[i]? = some x) (hx : Loc X.env.scope x) (r : RelV v u)
    (h : ∀ s', Inv X pins (σ.set i (some v)) H s' → Q () s') (hf : X.fn x = true ∨ X.env.scope.names.lookup x = some .local := by first | exact .inl rfl | exact .inr rfl | assumption) : wpAny M A (storeName X.env x u) Q E s :=
  store_ok2 I hN hi hx r (fun s' I' _ => h s' I') hf
theorem Inv.call' {s' : Shared} {ch : List Addr} (I : Inv X pins σ H s) (ho : s'.os = s.os) (u : Un (frs X.stack) ch H H' s.heap s'.heap) (hok : HOk X.prog X.w H' s'.heap) (hg : AllBare s'.gens)
    (hch : ∀ b ∈ ch, (b ∈ X.ex ∨ X.s₀.heap.objs.size ≤ b) ∧ b ≠ X.env.locals ∧ (∀ x c, X.env.cells.lookup x = some c → c ≠ b) ∧ ∀ p ∈ X.pn ++ pins, p.1 ≠ b) : Inv X pins σ H' s' := by
  obtain ⟨h', g', d', t', o'⟩ := s'
  have e : o' = s.os := ho
  subst e
  exact I.call (g' := g') (t' := t') (d' := d') u hok hg hch
end
abbrev XK := Value → Option Addr → Hp → Prop
abbrev St := List (Option V)
abbrev VK := V → Hp → Prop
abbrev TE := St → Hp → VK → Prop
abbrev TT := St → Hp → (Bool → Hp → Prop) → Prop
abbrev TA := St → Hp → (List V → Hp → Prop) → Prop
structure Ends where
  nx : St → Hp → Prop
  rt : VK
  bk : St → Hp → Prop := fun _ _ => False
  ct : St → Hp → Prop := fun _ _ => False
abbrev TS := Ends → St → Hp → Prop
def EP (X : Cx) (pins : List (Addr × Obj)) (σ : St) (Q : VK) (u : Value) (s' : Shared) : Prop := ∃ v H', Inv X pins σ H' s' ∧ RelV v u ∧ Q v H'
def TP (X : Cx) (pins : List (Addr × Obj)) (σ : St) (Q : Bool → Hp → Prop) (b : Bool) (s' : Shared) : Prop := ∃ H', Inv X pins σ H' s' ∧ Q b H'
def AP (X : Cx) (pins : List (Addr × Obj)) (σ : St) (Q : List V → Hp → Prop) (us : List Value) (s' : Shared) : Prop := ∃ vs H', Inv X pins σ H' s' ∧ Vals vs us ∧ Q vs H'
def SP (X : Cx) (pins : List (Addr × Obj)) (D : Ends) (f : Flow) (s' : Shared) : Prop :=
  match f with
  | .next => ∃ σ' H', Inv X pins σ' H' s' ∧ D.nx σ' H'
  | .brk => ∃ σ' H', Inv X pins σ' H' s' ∧ D.bk σ' H'
  | .cont => ∃ σ' H', Inv X pins σ' H' s' ∧ D.ct σ' H'
  | .ret u => ∃ v σ' H', Inv X pins σ' H' s' ∧ RelV v u ∧ D.rt v H'
def PE (X : Cx) (e : Expr) (t : TE) : Prop :=
  ∀ (pins : List (Addr × Obj)) (s : Shared) (σ : St) (H : Hp) (Q : VK), Inv X pins σ H s → t σ H Q → wpAny (model X.prog X.w) X.A (eval e X.env) (EP X pins σ Q) X.xe s
def PT (X : Cx) (e : Expr) (t : TT) : Prop :=
  ∀ (pins : List (Addr × Obj)) (s : Shared) (σ : St) (H : Hp) (Q : Bool → Hp → Prop), Inv X pins σ H s → t σ H Q → wpAny (model X.prog X.w) X.A (isTrue e X.env (eval e X.env)) (TP X pins σ Q) X.xe s
def PW (X : Cx) (e : Expr) (t : TT) : Prop :=
  ∀ (whole : Sem Value) (pins : List (Addr × Obj)) (s : Shared) (σ : St) (H : Hp) (Q : Bool → Hp → Prop), Inv X pins σ H s → t σ H Q → wpAny (model X.prog X.w) X.A (isTrue e X.env whole) (TP X pins σ Q) X.xe s
theorem PW.pt {X : Cx} {e : Expr} {t : TT} (h : PW X e t) : PT X e t := h _
def PA (X : Cx) (es : List Expr) (t : TA) : Prop :=
  ∀ (pos : Pos) (pins : List (Addr × Obj)) (s : Shared) (σ : St) (H : Hp) (Q : List V → Hp → Prop), Inv X pins σ H s → t σ H Q → wpAny (model X.prog X.w) X.A (spliced (backTo pos (starEach es X.env))) (AP X pins σ Q) X.xe s
def PS (X : Cx) (st : Stmt) (t : TS) : Prop :=
  ∀ (pins : List (Addr × Obj)) (s : Shared) (σ : St) (H : Hp) (D : Ends), Inv X pins σ H s → t D σ H → wpAny (model X.prog X.w) X.A (exec st X.env) (SP X pins D) X.xe s
def PSs (X : Cx) (st : List Stmt) (t : TS) : Prop :=
  ∀ (pins : List (Addr × Obj)) (s : Shared) (σ : St) (H : Hp) (D : Ends), Inv X pins σ H s → t D σ H → wpAny (model X.prog X.w) X.A (execs st X.env) (SP X pins D) X.xe s
theorem thn {α : Type} {t : Sem α} {Q Q' : α → Shared → Prop} {M : Model} {A : Around} {E : Value → Shared → Prop} {s : Shared} (h : wpAny M A t Q E s) (hQ : ∀ a s, Q a s → Q' a s) : wpAny M A t Q' E s := wpAny_mono h hQ fun _ _ x => x
end L2
namespace L2
open PySem PySem.Spec PyProof.Rows
section
variable {X : Cx}
theorem bin {a b : Expr} {ta tb : TE} (ha : PE X a ta) (hb : PE X b tb) {pins : List (Addr × Obj)} {s : Shared} {σ : St} {H : Hp} {R : V → V → Hp → Prop} (I : Inv X pins σ H s) (h : ta σ H fun x H1 => tb σ H1 fun y H2 => R x y H2)
    {α : Type} {Q : α → Shared → Prop} {f : Value → Value → Sem α}
    (hf : ∀ v u s2 x y H2, Inv X pins σ H2 s2 → RelV x v → RelV y u → R x y H2 → wpAny (model X.prog X.w) X.A (f v u) Q X.xe s2) :
    wpAny (model X.prog X.w) X.A (eval a X.env) (fun v s₁ => wpAny (model X.prog X.w) X.A (eval b X.env) (fun u s₂ => wpAny (model X.prog X.w) X.A (f v u) Q X.xe s₂) X.xe s₁) X.xe s := by
  refine thn (ha pins s σ H _ I h) fun v s1 ⟨x, H1, I1, r1, q1⟩ => ?_
  refine thn (hb pins s1 σ H1 _ I1 q1) fun u s2 ⟨y, H2, I2, r2, q2⟩ => ?_
  exact hf v u s2 x y H2 I2 r1 r2 q2
def tVar (i : Nat) : TE := fun σ H Q => ∃ v, σ[i]? = some (some v) ∧ Q v H
def tC (v : V) : TE := fun _ H Q => Q v H
theorem pe_var {i : Nat} {x : Str} {pos : Pos} (hN : X.N[i]? = some x) (hv : Vis X.env.scope x) (hd : (x == ("__debug__" : Str)) = false := by decide) (hcd : (x == ("__classdict__" : Str)) = false := by decide) : PE X (.Name x pos) (tVar i) := by
  intro pins s σ H Q I h
  obtain ⟨v, e, h⟩ := h
  obtain ⟨m, hn, hl⟩ := I.loc
  obtain ⟨u, r, l⟩ := hl i x v hN e hv
  have fin : EP X pins σ Q u s := ⟨v, H, I, r, h⟩
  rcases l with ⟨hk, hm⟩ | ⟨hk, c, hc, hcell⟩
  · exact wpAny_Name (wpAny_loadName_local I.ok.kind hk hn hm fin) hd
  · rcases hk with hk | hk
    · exact wpAny_Name (wpAny_loadName_cell I.ok.kind hk hc hcell fin) hd
    · exact wpAny_Name (wpAny_loadName_free I.ok.kind hk hc hcell fin hcd) hd
theorem pe_int {i j pos} : PE X (.Constant (.int i) j pos) (tC (.int i)) := fun _ _ _ H _ I h => wpAny_Constant_int ⟨.int i, H, I.tok _, ⟨_, rfl⟩, h⟩
theorem pe_bl {b j pos} : PE X (.Constant (.bool b) j pos) (tC (.bl b)) := fun _ _ _ H _ I h => Constant_bool ⟨.bl b, H, I, rfl, h⟩
theorem pe_non {j pos} : PE X (.Constant .none j pos) (tC .non) := fun _ _ _ H _ I h => Constant_none ⟨.non, H, I, rfl, h⟩
theorem pe_str {x j pos} : PE X (.Constant (.str x) j pos) (tC (.str x)) := fun _ _ _ H _ I h => Calls.Constant_str ⟨.str x, H, I.tok _, ⟨_, rfl⟩, h⟩
def Gl (X : Cx) (x : Str) : Prop := X.env.kindOf x = some .globalImplicit
theorem ld_glob {E : Value → Shared → Prop} {pins : List (Addr × Obj)} {s : Shared} {σ : St} {H : Hp} {x : Str} {u : Value} {pos : Pos} {Q : Value → Shared → Prop} (I : Inv X pins σ H s) (hg : Gl X x) (hm : X.mg x = some u) (h : Q u s)
    (hd : (x == ("__debug__" : Str)) = false := by decide) : wpAny (model X.prog X.w) X.A (eval (.Name x pos) X.env) Q E s :=
  Calls.Name_function_global I.ok.kind hg (Calls.loadGlobal_global (by rw [I.ok.glob]; exact I.mod.glob.keeps I.bk) hm h) hd
theorem ld_blt {E : Value → Shared → Prop} {pins : List (Addr × Obj)} {s : Shared} {σ : St} {H : Hp} {x : Str} {u : Value} {pos : Pos} {Q : Value → Shared → Prop} (I : Inv X pins σ H s) (hg : Gl X x) (hm : X.mg x = none) (hv : bootBuiltins x = some u) (h : Q u s)
    (hn : x ≠ "__name__" := by decide) (hd : (x == ("__debug__" : Str)) = false := by decide) : wpAny (model X.prog X.w) X.A (eval (.Name x pos) X.env) Q E s := by
  obtain ⟨mb, h1, h2⟩ := I.mod.blt
  exact Calls.Name_function_global I.ok.kind hg (Calls.loadGlobal_builtin (by rw [I.ok.glob]; exact I.mod.glob.keeps I.bk) hm (by rw [I.ok.blt]; exact h1.keeps I.bk) ((h2 x hn).trans hv) h) hd
theorem pe_glob {x : Str} {v : V} {u : Value} {pos : Pos} (hg : Gl X x) (hm : X.mg x = some u) (r : RelV v u) (hd : (x == ("__debug__" : Str)) = false := by decide) : PE X (.Name x pos) (tC v) :=
  fun _ _ _ H _ I h => ld_glob I hg hm ⟨v, H, I, r, h⟩ hd
theorem pe_bltn {x : Str} {v : V} {u : Value} {pos : Pos} (hg : Gl X x) (hm : X.mg x = none) (hv : bootBuiltins x = some u) (r : RelV v u) (hn : x ≠ "__name__" := by decide) (hd : (x == ("__debug__" : Str)) = false := by decide) : PE X (.Name x pos) (tC v) :=
  fun _ _ _ H _ I h => ld_blt I hg hm hv ⟨v, H, I, r, h⟩ hn hd
def t2I (ta tb : TE) (k : Int → Int → Hp → Prop) : St → Hp → Prop := fun σ H => ta σ H fun x H1 => tb σ H1 fun y H2 => ∃ i j, x = .int i ∧ y = .int j ∧ k i j H2
def tAdd (ta tb : TE) : TE := fun σ H Q => t2I ta tb (fun i j H2 => Q (.int (i + j)) H2) σ H
def tSub (ta tb : TE) : TE := fun σ H Q => t2I ta tb (fun i j H2 => Q (.int (i - j)) H2) σ H
def tMul (ta tb : TE) : TE := fun σ H Q => t2I ta tb (fun i j H2 => (-(2 ^ 64) < i ∧ i < 2 ^ 64) ∧ Q (.int (i * j)) H2) σ H
variable {a b : Expr} {ta tb : TE} {pos : Pos}
theorem pe_add (ha : PE X a ta) (hb : PE X b tb) : PE X (.BinOp a .Add b pos) (tAdd ta tb) := by
  intro pins s σ H Q I h
  refine wpAny_BinOp (bin ha hb I h fun v u s2 x y H2 I2 rx ry q => ?_)
  obtain ⟨i, j, rfl, rfl, q⟩ := q
  obtain ⟨t, rfl⟩ := rx
  obtain ⟨t', rfl⟩ := ry
  exact add_int ⟨.int _, H2, I2.tok _, ⟨_, rfl⟩, q⟩
theorem pe_sub (ha : PE X a ta) (hb : PE X b tb) : PE X (.BinOp a .Sub b pos) (tSub ta tb) := by
  intro pins s σ H Q I h
  refine wpAny_BinOp (bin ha hb I h fun v u s2 x y H2 I2 rx ry q => ?_)
  obtain ⟨i, j, rfl, rfl, q⟩ := q
  obtain ⟨t, rfl⟩ := rx
  obtain ⟨t', rfl⟩ := ry
  exact sub_int ⟨.int _, H2, I2.tok _, ⟨_, rfl⟩, q⟩
theorem pe_mul (ha : PE X a ta) (hb : PE X b tb) : PE X (.BinOp a .Mult b pos) (tMul ta tb) := by
  intro pins s σ H Q I h
  refine wpAny_BinOp (bin ha hb I h fun v u s2 x y H2 I2 rx ry q => ?_)
  obtain ⟨i, j, rfl, rfl, ⟨q1, q2⟩, q⟩ := q
  obtain ⟨t, rfl⟩ := rx
  obtain ⟨t', rfl⟩ := ry
  exact mul_int ⟨.int _, H2, I2.tok _, ⟨_, rfl⟩, q⟩ (.of_left (intBits_le_64 q1 q2))
def PC (X : Cx) (op : CmpOp) (a b : Expr) (t : TE) : Prop :=
  ∀ (pins : List (Addr × Obj)) (s : Shared) (σ : St) (H : Hp) (Q : VK), Inv X pins σ H s → t σ H Q →
    wpAny (model X.prog X.w) X.A (eval a X.env) (fun v s₁ => wpAny (model X.prog X.w) X.A (eval b X.env) (fun u s₂ => wpAny (model X.prog X.w) X.A (compareOp op v u) (EP X pins σ Q) X.xe s₂) X.xe s₁) X.xe s
theorem nobehind (b : Expr) {op : CmpOp} (h : op ≠ .In) (h2 : op ≠ .NotIn) : behindInMarks op b = false := by
  have e1 : (op == CmpOp.In) = false := by cases op <;> first | rfl | exact absurd rfl h
  have e2 : (op == CmpOp.NotIn) = false := by cases op <;> first | rfl | exact absurd rfl h2
  cases b <;> simp [behindInMarks, e1, e2]
def tCmp (p : Int → Int → Bool) (ta tb : TE) : TE := fun σ H Q => t2I ta tb (fun i j H2 => Q (.bl (p i j)) H2) σ H
abbrev tLt : TE → TE → TE := tCmp fun i j => decide (i < j)
abbrev tLe : TE → TE → TE := tCmp fun i j => decide (i ≤ j)
abbrev tGt : TE → TE → TE := tCmp fun i j => decide (j < i)
abbrev tGe : TE → TE → TE := tCmp fun i j => decide (j ≤ i)
abbrev tEqI : TE → TE → TE := tCmp fun i j => decide (i = j)
abbrev tNeI : TE → TE → TE := tCmp fun i j => !decide (i = j)
theorem pc_int {op : CmpOp} {p : Int → Int → Bool} (ha : PE X a ta) (hb : PE X b tb)
    (rule : ∀ (i j : Int) (t u : Tok) (Q : Value → Shared → Prop) (s : Shared), Q (.bool (p i j)) s → wpAny (model X.prog X.w) X.A (compareOp op (.int i t) (.int j u)) Q X.xe s) : PC X op a b (tCmp p ta tb) := by
  intro pins s σ H Q I h
  refine bin ha hb I h fun v u s2 x y H2 I2 rx ry q => ?_
  obtain ⟨i, j, rfl, rfl, q⟩ := q
  obtain ⟨t, rfl⟩ := rx
  obtain ⟨t', rfl⟩ := ry
  exact rule i j t t' _ s2 ⟨.bl _, H2, I2, rfl, q⟩
theorem pc_lt (ha : PE X a ta) (hb : PE X b tb) : PC X .Lt a b (tLt ta tb) := pc_int ha hb fun _ _ _ _ _ _ h => lt_int h
theorem pc_le (ha : PE X a ta) (hb : PE X b tb) : PC X .LtE a b (tLe ta tb) := pc_int ha hb fun _ _ _ _ _ _ h => le_int h
theorem pc_gt (ha : PE X a ta) (hb : PE X b tb) : PC X .Gt a b (tGt ta tb) := pc_int ha hb fun _ _ _ _ _ _ h => gt_int h
theorem pc_ge (ha : PE X a ta) (hb : PE X b tb) : PC X .GtE a b (tGe ta tb) := pc_int ha hb fun _ _ _ _ _ _ h => ge_int h
theorem pc_eqI (ha : PE X a ta) (hb : PE X b tb) : PC X .Eq a b (tEqI ta tb) := pc_int ha hb fun _ _ _ _ _ _ h => eq_int (by rw [Bool.beq_eq_decide_eq]; exact h)
theorem pc_neI (ha : PE X a ta) (hb : PE X b tb) : PC X .NotEq a b (tNeI ta tb) := pc_int ha hb fun _ _ _ _ _ _ h => ne_int (by rw [bne, Bool.beq_eq_decide_eq]; exact h)
def tIsN (ta : TE) : TE := fun σ H Q => ta σ H fun x H1 => Q (.bl (decide (x = .non))) H1
def tNotN (ta : TE) : TE := fun σ H Q => ta σ H fun x H1 => Q (.bl (!decide (x = .non))) H1
theorem RelV.none_iff {x : V} {v : Value} (r : RelV x v) : (v == Value.none) = decide (x = .non) := by
  cases x with
  | non => cases r; rfl
  | bl _ => cases r; rfl
  | int _ => obtain ⟨t, rfl⟩ := r; rfl
  | str _ => obtain ⟨t, rfl⟩ := r; rfl
  | byt _ => obtain ⟨t, rfl⟩ := r; rfl
  | flt _ => obtain ⟨t, rfl⟩ := r; rfl
  | ref _ => cases r; rfl
  | ty _ => cases r; rfl
theorem pc_isN {j pos'} (ha : PE X a ta) : PC X .Is a (.Constant .none j pos') (tIsN ta) := by
  intro pins s σ H Q I h
  refine thn (ha pins s σ H _ I h) fun v s1 ⟨x, H1, I1, r1, q1⟩ => ?_
  exact Constant_none (is_none_gen ⟨.bl _, H1, I1, by rw [r1.none_iff]; rfl, q1⟩)
theorem pc_notN {j pos'} (ha : PE X a ta) : PC X .IsNot a (.Constant .none j pos') (tNotN ta) := by
  intro pins s σ H Q I h
  refine thn (ha pins s σ H _ I h) fun v s1 ⟨x, H1, I1, r1, q1⟩ => ?_
  exact Constant_none (isnot_none_gen ⟨.bl _, H1, I1, by rw [r1.none_iff]; rfl, q1⟩)
def tB (t : TE) : TT := fun σ H Q => t σ H fun x H1 => ∃ c, x = .bl c ∧ Q c H1
theorem pe_cmp {op : CmpOp} {t : TE} (h : PC X op a b t) (h1 : behindInMarks op b = false := by first | exact nobehind _ (by decide) (by decide) | rfl) : PE X (.Compare a [op] [b] pos) t := fun pins s σ H Q I hw => wpAny_Compare1 (h pins s σ H Q I hw) h1
theorem pt_cmp {op : CmpOp} {t : TE} (h : PC X op a b t) (h1 : behindInMarks op b = false := by first | exact nobehind _ (by decide) (by decide) | rfl) : PT X (.Compare a [op] [b] pos) (tB t) := by
  intro pins s σ H Q I hw
  refine wpAny_isTrue_Compare1 (thn (h pins s σ H _ I hw) fun v s1 h1 => thn h1 fun u s2 h2 => thn h2 fun c s3 ⟨x, H1, I1, r1, q1⟩ => ?_) h1
  obtain ⟨d, rfl, q⟩ := q1
  cases r1
  exact wpAny_truthy_bool ⟨H1, I1, q⟩
theorem pt_val {e : Expr} {t : TE} (h : PE X e t) (he : ∀ whole, isTrue e X.env whole = (do let v ← whole; standAt e.pos; holding [v] (truthy v)) := by intro _; rfl) : PT X e (tB t) := by
  intro pins s σ H Q I hw
  refine isTrue_plain (thn (h pins s σ H _ I hw) fun v s1 ⟨x, H1, I1, r1, q1⟩ => ?_) (he _)
  obtain ⟨d, rfl, q⟩ := q1
  cases r1
  exact wpAny_truthy_bool ⟨H1, I1, q⟩
variable {tA tB' : TT} {rest : List Expr}
def tAnd (t u : TT) : TT := fun σ H Q => t σ H fun c H1 => if c = true then u σ H1 Q else Q false H1
def tOr (t u : TT) : TT := fun σ H Q => t σ H fun c H1 => if c = true then Q true H1 else u σ H1 Q
def tNot (t : TT) : TT := fun σ H Q => t σ H fun c H1 => Q (!c) H1
theorem pw_and1 (ha : PT X a tA) : PW X (.BoolOp .And [a] pos) tA := by
  intro wh pins s σ H Q I h
  refine isTrue_and (thn (ha pins s σ H Q I h) fun c s1 e => ?_)
  cases c with
  | true => exact isTrue_and_nil e
  | false => exact e
theorem pw_or1 (ha : PT X a tA) : PW X (.BoolOp .Or [a] pos) tA := by
  intro wh pins s σ H Q I h
  refine isTrue_or (thn (ha pins s σ H Q I h) fun c s1 e => ?_)
  cases c with
  | false => exact isTrue_or_nil e
  | true => exact e
theorem pw_and (ha : PT X a tA) (hb : PW X (.BoolOp .And (b :: rest) pos) tB') : PW X (.BoolOp .And (a :: b :: rest) pos) (tAnd tA tB') := by
  intro wh pins s σ H Q I h
  refine isTrue_and (thn (ha pins s σ H _ I h) fun c s1 ⟨H1, I1, q1⟩ => ?_)
  cases c with
  | true => exact hb wh pins s1 σ H1 Q I1 q1
  | false => exact ⟨H1, I1, q1⟩
theorem pw_or (ha : PT X a tA) (hb : PW X (.BoolOp .Or (b :: rest) pos) tB') : PW X (.BoolOp .Or (a :: b :: rest) pos) (tOr tA tB') := by
  intro wh pins s σ H Q I h
  refine isTrue_or (thn (ha pins s σ H _ I h) fun c s1 ⟨H1, I1, q1⟩ => ?_)
  cases c with
  | true => exact ⟨H1, I1, q1⟩
  | false => exact hb wh pins s1 σ H1 Q I1 q1
theorem pt_not (ha : PT X a tA) : PT X (.UnaryOp .Not a pos) (tNot tA) := by
  intro pins s σ H Q I h
  exact isTrue_not (ha pins s σ H (fun c H1 => Q (!c) H1) I h)
def tAndV (ta tb : TE) : TE := fun σ H Q => ta σ H fun x H1 => ∃ c, x = .bl c ∧ if c = true then tb σ H1 Q else Q (.bl false) H1
def tOrV (ta tb : TE) : TE := fun σ H Q => ta σ H fun x H1 => ∃ c, x = .bl c ∧ if c = true then Q (.bl true) H1 else tb σ H1 Q
def tNotV (ta : TE) : TE := fun σ H Q => ta σ H fun x H1 => ∃ c, x = .bl c ∧ Q (.bl (!c)) H1
theorem pe_one {op} {t : TE} (h : PE X a t) : PE X (.BoolOp op [a] pos) t := fun pins s σ H Q I hw => BoolOp_one (h pins s σ H Q I hw)
theorem pe_and (ha : PE X a ta) (hb : PE X (.BoolOp .And (b :: rest) pos) tb) : PE X (.BoolOp .And (a :: b :: rest) pos) (tAndV ta tb) := by
  intro pins s σ H Q I h
  refine BoolOp_and (thn (ha pins s σ H _ I h) fun v s1 ⟨x, H1, I1, r1, q1⟩ => ?_)
  obtain ⟨c, rfl, q1⟩ := q1
  cases r1
  refine wpAny_truthy_bool ?_
  cases c with
  | true => exact hb pins s1 σ H1 Q I1 q1
  | false => exact ⟨.bl false, H1, I1, rfl, q1⟩
theorem pe_or (ha : PE X a ta) (hb : PE X (.BoolOp .Or (b :: rest) pos) tb) : PE X (.BoolOp .Or (a :: b :: rest) pos) (tOrV ta tb) := by
  intro pins s σ H Q I h
  refine BoolOp_or (thn (ha pins s σ H _ I h) fun v s1 ⟨x, H1, I1, r1, q1⟩ => ?_)
  obtain ⟨c, rfl, q1⟩ := q1
  cases r1
  refine wpAny_truthy_bool ?_
  cases c with
  | false => exact hb pins s1 σ H1 Q I1 q1
  | true => exact ⟨.bl true, H1, I1, rfl, q1⟩
theorem pe_not (ha : PE X a ta) : PE X (.UnaryOp .Not a pos) (tNotV ta) := by
  intro pins s σ H Q I h
  refine UnaryOp_ (thn (ha pins s σ H _ I h) fun v s1 ⟨x, H1, I1, r1, q1⟩ => ?_)
  obtain ⟨c, rfl, q1⟩ := q1
  cases r1
  exact not_of (wpAny_truthy_bool ⟨.bl (!c), H1, I1, rfl, q1⟩)
def tIf (t : TT) (ta tb : TE) : TE := fun σ H Q => t σ H fun c H1 => if c = true then ta σ H1 Q else tb σ H1 Q
theorem pe_ifExp {c : Expr} (hc : PT X c tA) (ha : PE X a ta) (hb : PE X b tb) : PE X (.IfExp c a b pos) (tIf tA ta tb) := by
  intro pins s σ H Q I h
  refine wpAny_IfExp (thn (hc pins s σ H _ I h) fun d s1 ⟨H1, I1, q1⟩ => ?_)
  cases d with
  | true => exact ha pins s1 σ H1 Q I1 q1
  | false => exact hb pins s1 σ H1 Q I1 q1
end
end L2
namespace L2
open PySem PySem.Spec PyProof.Rows
def SqL (K : PySem.W.Frag) (H : Hp) (a : Addr) (xs : List V) : Prop :=
  Rd H a (.lst xs) ∨
    ∃ (o : Obj) (its : Array Value) (n : Nat), K.lookup a = some o ∧ o.cls = .type "list" ∧ o.dict = none ∧ o.data = .seq its n ∧ its.size ≤ sizeLine ∧ Vals xs its.toList
def SqT (K : PySem.W.Frag) (H : Hp) (a : Addr) (xs : List V) : Prop :=
  Rd H a (.tup xs) ∨
    ∃ (o : Obj) (its : Array Value) (n : Nat), K.lookup a = some o ∧ o.cls = .type "tuple" ∧ o.dict = none ∧ o.data = .seq its n ∧ its.size ≤ sizeLine ∧ Vals xs its.toList
def absV : Value → Option V
  | .none => some .non
  | .bool b => some (.bl b)
  | .int i _ => some (.int i)
  | .str x _ => some (.str x)
  | .bytes b _ => some (.byt b)
  | .float b _ => some (.flt b)
  | .ref a => some (.ref a)
  | .type n => some (.ty n)
  | _ => none
theorem RelV.abs {x : V} {u : Value} (r : RelV x u) : absV u = some x := by
  cases x with
  | non => cases r; rfl
  | bl _ => cases r; rfl
  | int _ => obtain ⟨t, rfl⟩ := r; rfl
  | str _ => obtain ⟨t, rfl⟩ := r; rfl
  | byt _ => obtain ⟨t, rfl⟩ := r; rfl
  | flt _ => obtain ⟨t, rfl⟩ := r; rfl
  | ref _ => cases r; rfl
  | ty _ => cases r; rfl
theorem RelV.inj {x y : V} {u : Value} (r : RelV x u) (q : RelV y u) : x = y := Option.some.inj (r.abs.symm.trans q.abs)
theorem Vals.inj : ∀ {xs ys : List V} {us : List Value}, Vals xs us → Vals ys us → xs = ys
  | _, _, _, .nil, .nil => rfl
  | _, _, _, .cons r t, .cons r' t' => by rw [r.inj r', Vals.inj t t']
section
variable {X : Cx} {pins : List (Addr × Obj)} {σ : St} {H : Hp} {s : Shared} {a : Addr} {xs ys : List V}
theorem SqL.of {K : PySem.W.Frag} (h : H a = some (.lst xs)) : SqL K H a xs := .inl (.inl h)
theorem SqT.of {K : PySem.W.Frag} (h : H a = some (.tup xs)) : SqT K H a xs := .inl (.inl h)
theorem Inv.list (I : Inv X pins σ H s) (h : SqL X.K H a xs) : ∃ its : List Value, Vals xs its ∧ PlainL s.heap a its.toArray ∧ xs.length ≤ sizeLine := by
  rcases h with h | ⟨o, its, n, hk, hc, hd, hs, hz, r⟩
  · obtain ⟨z, its, n, r, e⟩ := h.ok I.hok
    exact ⟨its, r, ⟨_, n, e, rfl, rfl, rfl⟩, z⟩
  · refine ⟨its.toList, r, ⟨o, n, I.kIn a o hk, hc, hd, by simpa using hs⟩, ?_⟩
    have e := r.length
    simp only [Array.length_toList] at e
    omega
theorem Inv.tupleN (I : Inv X pins σ H s) (h : SqT X.K H a xs) : ∃ its : List Value, Vals xs its ∧ PlainT s.heap a its.toArray ∧ xs.length ≤ sizeLine := by
  rcases h with h | ⟨o, its, n, hk, hc, hd, hs, hz, r⟩
  · obtain ⟨z, its, r, p⟩ := h.ok I.hok
    exact ⟨its, r, p, z⟩
  · refine ⟨its.toList, r, ⟨o, I.kIn a o hk, hc, hd, n, by simpa using hs⟩, ?_⟩
    have e := r.length
    simp only [Array.length_toList] at e
    omega
theorem Inv.tuple (I : Inv X pins σ H s) (h : SqT X.K H a xs) : ∃ its : List Value, Vals xs its ∧ IsTup s.heap a its.toArray ∧ xs.length ≤ sizeLine := by
  rcases h with h | ⟨o, its, n, hk, hc, hd, hs, hz, r⟩
  · obtain ⟨z, its, r, p⟩ := h.ok I.hok
    exact ⟨its, r, p.isTup, z⟩
  · refine ⟨its.toList, r, ⟨o, I.kIn a o hk, hc, n, by simpa using hs⟩, ?_⟩
    have e := r.length
    simp only [Array.length_toList] at e
    omega
theorem Inv.list_inj (I : Inv X pins σ H s) (h : SqL X.K H a xs) (h' : SqL X.K H a ys) : xs = ys := by
  obtain ⟨its, r, ⟨o, n, e, _, _, d⟩, _⟩ := I.list h
  obtain ⟨its', r', ⟨o', n', e', _, _, d'⟩, _⟩ := I.list h'
  rw [e] at e'; cases e'
  rw [d] at d'
  injection d' with d1 _
  have : its = its' := by simpa using congrArg Array.toList d1
  subst this
  exact r.inj r'
theorem Inv.tuple_inj (I : Inv X pins σ H s) (h : SqT X.K H a xs) (h' : SqT X.K H a ys) : xs = ys := by
  obtain ⟨its, r, ⟨o, e, _, n, d⟩, _⟩ := I.tuple h
  obtain ⟨its', r', ⟨o', e', _, n', d'⟩, _⟩ := I.tuple h'
  rw [e] at e'; cases e'
  rw [d] at d'
  injection d' with d1 _
  have : its = its' := by simpa using congrArg Array.toList d1
  subst this
  exact r.inj r'
end
abbrev Cx.wish (X : Cx) (E : Value → Shared → Prop) : Cx := { X with xe := E }
abbrev Cx.nox (X : Cx) : Cx := X.wish fun _ _ => False
theorem Cx.Ok.wish {X : Cx} (ok : X.Ok) (E : Value → Shared → Prop) : (X.wish E).Ok :=
  ⟨ok.mod, ok.kind, ok.glob, ok.blt, ok.above, ok.inj, ok.has, ok.cab, ok.hd, ok.frames, ok.stk, ok.exf, ok.bs, ok.bsz, ok.noex, ok.exfs, ok.funs, ok.frf⟩
theorem Cx.Ok.unwish {X : Cx} {E : Value → Shared → Prop} (ok : (X.wish E).Ok) : X.Ok :=
  ⟨ok.mod, ok.kind, ok.glob, ok.blt, ok.above, ok.inj, ok.has, ok.cab, ok.hd, ok.frames, ok.stk, ok.exf, ok.bs, ok.bsz, ok.noex, ok.exfs, ok.funs, ok.frf⟩
section
variable {X : Cx} {pins : List (Addr × Obj)} {σ : St} {H : Hp} {s : Shared} {E : Value → Shared → Prop}
theorem Inv.wish (I : Inv X pins σ H s) (E : Value → Shared → Prop) : Inv (X.wish E) pins σ H s := ⟨I.ok.wish E, I.os, I.bare, I.base, I.loc, I.cell, I.free, I.freeC, I.pin, I.hok, I.len⟩
theorem Inv.unwish (I : Inv (X.wish E) pins σ H s) : Inv X pins σ H s := ⟨I.ok.unwish, I.os, I.bare, I.base, I.loc, I.cell, I.free, I.freeC, I.pin, I.hok, I.len⟩
theorem SP.unwish {D : Ends} {f : Flow} {s' : Shared} (h : SP (X.wish E) pins D f s') : SP X pins D f s' := by
  cases f with
  | next => obtain ⟨σ', H', I, q⟩ := h; exact ⟨σ', H', I.unwish, q⟩
  | brk => obtain ⟨σ', H', I, q⟩ := h; exact ⟨σ', H', I.unwish, q⟩
  | cont => obtain ⟨σ', H', I, q⟩ := h; exact ⟨σ', H', I.unwish, q⟩
  | ret u => obtain ⟨v, σ', H', I, r, q⟩ := h; exact ⟨v, σ', H', I.unwish, r, q⟩
theorem PE.nox {e : Expr} {t : TE} (h : PE X.nox e t) : PE X e t := fun pins s σ H Q I hw =>
  wpAny_mono (h pins s σ H Q (I.wish _) hw) (fun _ _ ⟨v, H', I', r, q⟩ => ⟨v, H', I'.unwish, r, q⟩) fun _ _ z => False.elim z
theorem PT.nox {e : Expr} {t : TT} (h : PT X.nox e t) : PT X e t := fun pins s σ H Q I hw =>
  wpAny_mono (h pins s σ H Q (I.wish _) hw) (fun _ _ ⟨H', I', q⟩ => ⟨H', I'.unwish, q⟩) fun _ _ z => False.elim z
theorem PSs.nox {st : List Stmt} {t : TS} (h : PSs X.nox st t) : PSs X st t := fun pins s σ H D I hw =>
  wpAny_mono (h pins s σ H D (I.wish _) hw) (fun _ _ q => q.unwish) fun _ _ z => False.elim z
end
section
variable {X : Cx} {st : Stmt} {rest : List Stmt} {t u : TS} {e : Expr} {te : TE} {pos : Pos}
def tNext : TS := fun D σ H => D.nx σ H
def tSeq (t u : TS) : TS := fun D σ H => t { D with nx := u D } σ H
theorem pss_nil : PSs X [] tNext := fun _ _ σ H _ I h => wpAny_execs_nil ⟨σ, H, I, h⟩
theorem pss_cons (h1 : PS X st t) (h2 : PSs X rest u) : PSs X (st :: rest) (tSeq t u) := by
  intro pins s σ H D I h
  refine wpAny_execs_cons (thn (h1 pins s σ H { D with nx := u D } I h) fun f s1 q => ?_)
  cases f with
  | next =>
    obtain ⟨σ', H', I', q⟩ := q
    exact h2 pins s1 σ' H' D I' q
  | ret v => exact q
  | brk => exact q
  | cont => exact q
theorem pss_one (h1 : PS X st t) : PSs X [st] t := by
  intro pins s σ H D I h
  refine wpAny_execs_cons (thn (h1 pins s σ H D I h) fun f s1 q => ?_)
  cases f with
  | next => exact wpAny_execs_nil q
  | ret v => exact q
  | brk => exact q
  | cont => exact q
def tBreak : TS := fun D σ H => D.bk σ H
def tCont : TS := fun D σ H => D.ct σ H
theorem ps_pass : PS X (.Pass pos) tNext := fun _ _ σ H _ I h => wpAny_Pass ⟨σ, H, I, h⟩
theorem ps_break : PS X (.Break pos) tBreak := fun _ _ σ H _ I h => wpAny_Break ⟨σ, H, I, h⟩
theorem ps_continue : PS X (.Continue pos) tCont := fun _ _ σ H _ I h => wpAny_Continue ⟨σ, H, I, h⟩
theorem Inv.quiet {pins : List (Addr × Obj)} {σ : St} {H : Hp} {s : Shared} (I : Inv X pins σ H s) : interactive X.env = false := by simp [interactive, I.ok.kind]
theorem ps_doc {x j pos pos'} : PS X (.Expr (.Constant (.str x) j pos) pos') tNext := fun _ s σ H _ I h => wpAny_Expr (Calls.Constant_str (show SP X _ _ .next { s with toks := s.toks + 1 } from ⟨σ, H, I.tok _, h⟩)) I.quiet
def tDrop (te : TE) : TS := fun D σ H => te σ H fun _ H1 => D.nx σ H1
theorem ps_expr (he : PE X e te) (hs : swapsWith e none pos.line X.env = pure false := by rfl) : PS X (.Expr e pos) (tDrop te) := by
  intro pins s σ H D I h
  exact wpAny_Expr_any (thn (he pins s σ H _ I h) fun v s1 ⟨x, H1, I1, r1, q1⟩ => ⟨σ, H1, I1, q1⟩) I.quiet hs
def tRet (te : TE) : TS := fun D σ H => te σ H D.rt
theorem ps_ret (he : PE X e te) : PS X (.Return (some e) pos) (tRet te) := by
  intro pins s σ H D I h
  exact wpAny_Return_some (thn (he pins s σ H _ I h) fun v s1 ⟨x, H1, I1, r1, q1⟩ => ⟨x, σ, H1, I1, r1, q1⟩)
def tRetN : TS := fun D _ H => D.rt .non H
theorem ps_retN : PS X (.Return none pos) tRetN := fun _ _ σ H _ I h => wpAny_Return_none ⟨.non, σ, H, I, rfl, h⟩
def tIfS (c : TT) (t u : TS) : TS := fun D σ H => c σ H fun b H1 => if b = true then t D σ H1 else u D σ H1
theorem ps_if {c : Expr} {a b : List Stmt} {tc : TT} (hc : PT X c tc) (ha : PSs X a t) (hb : PSs X b u) : PS X (.If c a b pos) (tIfS tc t u) := by
  intro pins s σ H D I h
  refine wpAny_If (thn (hc pins s σ H _ I h) fun d s1 ⟨H1, I1, q1⟩ => ?_)
  cases d with
  | true => exact ha pins s1 σ H1 D I1 q1
  | false => exact hb pins s1 σ H1 D I1 q1
def tNever : TS := fun _ _ _ => False
theorem ps_never : PS X st tNever := fun _ _ _ _ _ _ h => h.elim
theorem pss_never {sts : List Stmt} : PSs X sts tNever := fun _ _ _ _ _ _ h => h.elim
end
abbrev TG := V → St → Hp → (St → Hp → Prop) → Prop
abbrev TGs := List V → St → Hp → (St → Hp → Prop) → Prop
def PG (X : Cx) (target : Expr) (t : TG) : Prop :=
  ∀ (pins : List (Addr × Obj)) (s : Shared) (σ : St) (H : Hp) (v : V) (u : Value) (Q : St → Hp → Prop), Inv X pins σ H s → RelV v u → t v σ H Q →
    wpAny (model X.prog X.w) X.A (assign target X.env u) (fun _ s' => ∃ σ' H', Inv X pins σ' H' s' ∧ Q σ' H') X.xe s
def PGs (X : Cx) (ts : List Expr) (t : TGs) : Prop :=
  ∀ (pins : List (Addr × Obj)) (s : Shared) (σ : St) (H : Hp) (vs : List V) (us : List Value) (Q : St → Hp → Prop), Inv X pins σ H s → Vals vs us → t vs σ H Q →
    wpAny (model X.prog X.w) X.A (assignInOrder ((assignEach ts X.env).map (·.2)) us) (fun _ s' => ∃ σ' H', Inv X pins σ' H' s' ∧ Q σ' H') X.xe s
abbrev TSet := V → V → V → Hp → (Hp → Prop) → Prop
def PSet (X : Cx) (t : TSet) : Prop :=
  ∀ (pins : List (Addr × Obj)) (s : Shared) (σ : St) (H : Hp) (o i v : V) (ov iv u : Value) (Q : Hp → Prop), Inv X pins σ H s → RelV o ov → RelV i iv → RelV v u → t o i v H Q →
    wpAny (model X.prog X.w) X.A (setItem ov iv u) (fun _ s' => ∃ H', Inv X pins σ H' s' ∧ Q H') X.xe s
abbrev TIp := V → V → Hp → VK → Prop
def PIp (X : Cx) (op : Operator) (t : TIp) : Prop :=
  ∀ (pins : List (Addr × Obj)) (s : Shared) (σ : St) (H : Hp) (x y : V) (v u : Value) (Q : VK), Inv X pins σ H s → RelV x v → RelV y u → t x y H Q →
    wpAny (model X.prog X.w) X.A (inplaceOp op v u) (EP X pins σ Q) X.xe s
section
variable {X : Cx} {pos : Pos}
def gName (i : Nat) : TG := fun v σ H Q => Q (σ.set i (some v)) H
theorem pg_name {i : Nat} {x : Str} (hN : X.N.Nodup) (hi : X.N[i]? = some x) (hx : Loc X.env.scope x) (hf : X.fn x = true ∨ X.env.scope.names.lookup x = some .local := by first | exact .inl rfl | exact .inr rfl | assumption) : PG X (.Name x pos) (gName i) := by
  intro pins s σ H v u Q I r h
  exact wpAny_assign_Name (store_ok I hN hi hx r (fun s' I' => ⟨_, H, I', h⟩) hf)
def gNil : TGs := fun vs σ H Q => vs = [] ∧ Q σ H
def gCons (t : TG) (u : TGs) : TGs := fun vs σ H Q => ∃ v r, vs = v :: r ∧ t v σ H fun σ' H' => u r σ' H' Q
theorem pgs_nil : PGs X [] gNil := by
  intro pins s σ H vs us Q I r h
  obtain ⟨e, h⟩ := h
  subst e
  cases r
  exact assignInOrder_nil ⟨σ, H, I, h⟩
theorem pgs_cons {e : Expr} {es : List Expr} {t : TG} {u : TGs} (h1 : PG X e t) (h2 : PGs X es u)
    (hs : (assignEach (e :: es) X.env).map (·.2) = assign e X.env :: (assignEach es X.env).map (·.2) := by rfl) : PGs X (e :: es) (gCons t u) := by
  intro pins s σ H vs us Q I r h
  obtain ⟨v, vr, e1, h⟩ := h
  subst e1
  cases r with
  | cons r rr =>
    rw [hs]
    refine assignInOrder_cons (thn (h1 pins s σ H _ _ _ I r h) fun _ s1 ⟨σ1, H1, I1, q1⟩ => ?_)
    exact h2 pins s1 σ1 H1 _ _ Q I1 rr q1
def gTup (K : PySem.W.Frag) (n : Nat) (t : TGs) : TG := fun v σ H Q => ∃ a xs, v = .ref a ∧ SqT K H a xs ∧ xs.length = n ∧ t xs σ H Q
theorem pg_tup {es : List Expr} {k : Nat} {t : TGs} {n : Nat} (hc : X.calm = true) (h : PGs X es t)
    (hn : (assignEach es X.env).length = n := by rfl) (hst : (assignEach es X.env).findIdx? (·.1) = none := by rfl) : PG X (.Tuple es k pos) (gTup X.K n t) := by
  intro pins s σ H v u Q I r hw
  obtain ⟨a, xs, e1, hq, hl, hw⟩ := hw
  subst e1
  cases r
  obtain ⟨its, rv, ht, hz⟩ := I.tuple hq
  refine assign_Tuple_tuple (I.ok.hd hc) ht (by simp [hn, ← hl, rv.length]) hst fun h' hx => ?_
  have I1 : Inv X pins σ H { s with heap := h' } := I.kept (t' := s.toks) fun b o e => hx b o (Nat.ne_of_lt (Heap.lt_size e)) e
  exact h pins _ σ H xs _ Q I1 (by simpa using rv) hw
def gSub (to ti : TE) (t : TSet) : TG := fun v σ H Q => to σ H fun o H1 => ti σ H1 fun i H2 => t o i v H2 fun H3 => Q σ H3
theorem pg_sub {o i : Expr} {to ti : TE} {t : TSet} (ho : PE X o to) (hi : PE X i ti) (hs : PSet X t)
    (ha : ∀ v, assign (.Subscript o i pos) X.env v = (do
      let ov ← holding [v] (eval o X.env)
      let iv ← holding [v, ov] (eval i X.env)
      standAt pos
      holding [v, ov, iv] (setItem ov iv v)
      release [v, ov, iv] []) := by intro _; rfl) : PG X (.Subscript o i pos) (gSub to ti t) := by
  intro pins s σ H v u Q I r h
  rw [ha]
  refine wpAny_bind (wpAny_holding (thn (ho pins s σ H _ I h) fun ov s1 ⟨x, H1, I1, r1, q1⟩ => ?_))
  refine wpAny_bind (wpAny_holding (thn (hi pins s1 σ H1 _ I1 q1) fun iv s2 ⟨y, H2, I2, r2, q2⟩ => ?_))
  refine wpAny_bind (wpAny_standAt (wpAny_bind (wpAny_holding (thn (hs pins s2 σ H2 x y v ov iv u _ I2 r1 r2 r q2) fun _ s3 ⟨H3, I3, q3⟩ => ?_))))
  exact wpAny_release ⟨σ, H3, I3, q3⟩
def tAsg (te : TE) (g : TG) : TS := fun D σ H => te σ H fun x H1 => g x σ H1 D.nx
theorem ps_asg {tg e : Expr} {te : TE} {g : TG} (he : PE X e te) (hg : PG X tg g) (hs : swapsWithSole [tg] e pos.line X.env = pure false := by rfl) (hw : swappedStores [tg] e X.env = pure none := by rfl)
    (h1 : (assignEach [tg] X.env).map (·.2) = [assign tg X.env] := by rfl) : PS X (.Assign [tg] e pos) (tAsg te g) := by
  intro pins s σ H D I h
  refine wpAny_Assign_stores (thn (he pins s σ H _ I h) fun v s1 ⟨x, H1, I1, r1, q1⟩ => ?_) hs hw
  rw [h1]
  exact thn (hg pins s1 σ H1 x v _ I1 r1 q1) fun _ s2 q => q
theorem ps_set {i : Nat} {x : Str} {e : Expr} {te : TE} {pos' : Pos} (hN : X.N.Nodup) (hi : X.N[i]? = some x) (hx : Loc X.env.scope x) (he : PE X e te) (hs : swapsWith e (some (.Name x pos')) pos.line X.env = pure false := by rfl) (hf : X.fn x = true ∨ X.env.scope.names.lookup x = some .local := by first | exact .inl rfl | exact .inr rfl | assumption) :
    PS X (.Assign [.Name x pos'] e pos) (tAsg te (gName i)) := by
  intro pins s σ H D I h
  refine wpAny_Assign_Name (thn (he pins s σ H _ I h) fun v s1 ⟨y, H1, I1, r1, q1⟩ => ?_) hs
  exact store_ok I1 hN hi hx r1 (fun s2 I2 => ⟨_, H1, I2, q1⟩) hf
def tPar (i j : Nat) (ta : TA) : TS := fun D σ H => ta σ H fun vs H1 => ∃ v w, vs = [v, w] ∧ D.nx ((σ.set i (some v)).set j (some w)) H1
theorem ps_par {i j : Nat} {x y : Str} {a b : Expr} {ta : TA} {px py pt : Pos} {kt k2 pt2} (hc : X.calm = true) (hN : X.N.Nodup) (hi : X.N[i]? = some x) (hj : X.N[j]? = some y) (hij : i ≠ j)
    (hx : X.env.scope.names.lookup x = some .local) (hy : X.env.scope.names.lookup y = some .local) (ha : PA X [a, b] ta)
    (hw : swappedStores [.Tuple [.Name x px, .Name y py] kt pt] (.Tuple [a, b] k2 pt2) X.env = pure (some [x, y]))
    (hs : swapsWithSole [.Tuple [.Name x px, .Name y py] kt pt] (.Tuple [a, b] k2 pt2) pos.line X.env = pure false := by rfl) :
    PS X (.Assign [.Tuple [.Name x px, .Name y py] kt pt] (.Tuple [a, b] k2 pt2) pos) (tPar i j ta) := by
  intro pins s σ H D I h
  rw [exec_Assign_arm]
  refine wpAny_bind (wpAny_standAt ?_)
  rw [hs]
  refine wpAny_bind (wpAny_pure ?_)
  rw [if_neg (by decide)]
  refine wpAny_bind (Tuple_ (thn (ha _ pins s σ H _ I h) fun us s1 ⟨vs, H1, I1, r1, q1⟩ => ?_))
  obtain ⟨v, w, e1, q1⟩ := q1
  subst e1
  obtain ⟨u1, u2, rfl, rv, rw'⟩ : ∃ u1 u2, us = [u1, u2] ∧ RelV v u1 ∧ RelV w u2 := by
    cases r1 with
    | cons p q =>
      cases q with
      | cons p' q' =>
        cases q'
        exact ⟨_, _, rfl, p, p'⟩
  refine wpAny_newObj_type ?_ (by show 2 ≤ sizeLine; decide)
  have I2 : Inv X pins σ H1 { s1 with heap := s1.heap.push { cls := .type "tuple", data := .seq [u1, u2].toArray } } := I1.kept (t' := s1.toks) fun b o e => Heap.get?_push_of_some _ e
  rw [hw]
  refine wpAny_bind (wpAny_pure ?_)
  show wpAny (model X.prog X.w) X.A (do rule "assign.swapped-stores"; let items ← unpackItems (.ref s1.heap.objs.size) 2 none; assignInOrder [fun v => bindName X.env y v, fun v => bindName X.env x v] items.reverse; pure Flow.next) _ _ _
  refine wpAny_bind (wpAny_rule (wpAny_bind (unpackItems_tuple (items := #[u1, u2]) (I.ok.hd hc) (IsTup.new s1.heap _) fun h' hx' => ?_)))
  have I3 := I2.kept (h' := h') (t' := s1.toks) fun b o e => hx' b o (Nat.ne_of_lt (Heap.lt_size e)) e
  show wpAny _ _ (assignInOrder [fun v => bindName X.env y v, fun v => bindName X.env x v] [u2, u1] >>= fun _ => pure Flow.next) _ _ _
  refine wpAny_bind (assignInOrder_cons (wpAny_bindName (store_ok I3 hN hj (.inl hy) rw' (fun s2 I4 => ?_) (.inr hy))))
  refine assignInOrder_cons (wpAny_bindName (store_ok I4 hN hi (.inl hx) rv (fun s3 I5 => assignInOrder_nil (wpAny_pure ?_)) (.inr hx)))
  rw [List.set_comm _ _ (Ne.symm hij)] at I5
  exact ⟨_, H1, I5, q1⟩
def tAug (i : Nat) (te : TE) (ti : TIp) : TS := fun D σ H => ∃ x, σ[i]? = some (some x) ∧ te σ H fun y H1 => ti x y H1 fun z H2 => D.nx (σ.set i (some z)) H2
theorem ps_aug {i : Nat} {x : Str} {e : Expr} {te : TE} {op : Operator} {ti : TIp} {pos' : Pos} (hN : X.N.Nodup) (hi : X.N[i]? = some x) (hx : Loc X.env.scope x) (he : PE X e te) (ho : PIp X op ti) (hf : X.fn x = true ∨ X.env.scope.names.lookup x = some .local := by first | exact .inl rfl | exact .inr rfl | assumption) :
    PS X (.AugAssign (.Name x pos') op e pos) (tAug i te ti) := by
  intro pins s σ H D I h
  obtain ⟨v, e1, h⟩ := h
  obtain ⟨m, hn, hl⟩ := I.loc
  have vis : Vis X.env.scope x := by rcases hx with k | k; exact .inl k; exact .inr (.inl k)
  obtain ⟨u, r, l⟩ := hl i x v hi e1 vis
  refine wpAny_AugAssign_Name ?_
  have go : wpAny (model X.prog X.w) X.A (eval e X.env) (fun w s₂ => wpAny (model X.prog X.w) X.A (inplaceOp op u w) (fun r s₃ => wpAny (model X.prog X.w) X.A (storeName X.env x r) (fun _ => SP X pins D .next) X.xe s₃) X.xe s₂) X.xe s := by
    refine thn (he pins s σ H _ I h) fun w s1 ⟨y, H1, I1, r1, q1⟩ => ?_
    refine thn (ho pins s1 σ H1 v y u w _ I1 r r1 q1) fun z s2 ⟨zv, H2, I2, r2, q2⟩ => ?_
    exact store_ok I2 hN hi hx r2 (fun s3 I3 => ⟨_, H2, I3, q2⟩) hf
  rcases l with ⟨hk, hm⟩ | ⟨hk, c, hc, hcell⟩
  · exact wpAny_loadName_local I.ok.kind hk hn hm go
  · rcases hk with hk | hk
    · exact wpAny_loadName_cell I.ok.kind hk hc hcell go
    · rcases hx with k | k
      · have : X.env.scope.names.lookup x = some .free := hk
        rw [k] at this; cases this
      · have : X.env.scope.names.lookup x = some .free := hk
        rw [k] at this; cases this
def tAugS (to ti te : TE) (tget : V → V → Hp → VK → Prop) (tip : TIp) (tset : TSet) : TS := fun D σ H => to σ H fun o H1 => ti σ H1 fun i H2 => tget o i H2 fun x H3 => te σ H3 fun y H4 => tip x y H4 fun z H5 => tset o i z H5 fun H6 => D.nx σ H6
def PGet (X : Cx) (t : V → V → Hp → VK → Prop) : Prop :=
  ∀ (pins : List (Addr × Obj)) (s : Shared) (σ : St) (H : Hp) (o i : V) (ov iv : Value) (Q : VK), Inv X pins σ H s → RelV o ov → RelV i iv → t o i H Q →
    wpAny (model X.prog X.w) X.A (getItem ov iv) (EP X pins σ Q) X.xe s
theorem ps_augS {o i e : Expr} {to ti te : TE} {tget : V → V → Hp → VK → Prop} {tip : TIp} {tset : TSet} {op : Operator} {tpos : Pos} (ho : PE X o to) (hi : PE X i ti) (hg : PGet X tget) (he : PE X e te) (hp : PIp X op tip) (hs : PSet X tset)
    (ha : ∀ ov iv new, augStore i ov iv new = (do holding [new, ov, iv] (setItem ov iv new); release [new, ov, iv] []; pure .next) := by intros; rfl) : PS X (.AugAssign (.Subscript o i tpos) op e pos) (tAugS to ti te tget tip tset) := by
  intro pins s σ H D I h
  refine wpAny_AugAssign_SubscriptAny (thn (ho pins s σ H _ I h) fun ov s1 ⟨x1, H1, I1, r1, q1⟩ => ?_) ha
  refine thn (hi pins s1 σ H1 _ I1 q1) fun iv s2 ⟨x2, H2, I2, r2, q2⟩ => ?_
  refine thn (hg pins s2 σ H2 x1 x2 ov iv _ I2 r1 r2 q2) fun old s3 ⟨x3, H3, I3, r3, q3⟩ => ?_
  refine thn (he pins s3 σ H3 _ I3 q3) fun v s4 ⟨x4, H4, I4, r4, q4⟩ => ?_
  refine thn (hp pins s4 σ H4 x3 x4 old v _ I4 r3 r4 q4) fun new s5 ⟨x5, H5, I5, r5, q5⟩ => ?_
  exact thn (hs pins s5 σ H5 x1 x2 x5 ov iv new _ I5 r1 r2 r5 q5) fun _ s6 ⟨H6, I6, q6⟩ => ⟨σ, H6, I6, q6⟩
def ipI (f : Int → Int → Int) : TIp := fun x y H Q => ∃ i j, x = .int i ∧ y = .int j ∧ Q (.int (f i j)) H
theorem ip_add : PIp X .Add (ipI fun i j => i + j) := by
  intro pins s σ H x y v u Q I r1 r2 h
  obtain ⟨i, j, e1, e2, q⟩ := h
  subst e1; subst e2
  obtain ⟨t, rfl⟩ := r1
  obtain ⟨t', rfl⟩ := r2
  exact iadd_int ⟨.int _, H, I.tok _, ⟨_, rfl⟩, q⟩
theorem ip_sub : PIp X .Sub (ipI fun i j => i - j) := by
  intro pins s σ H x y v u Q I r1 r2 h
  obtain ⟨i, j, e1, e2, q⟩ := h
  subst e1; subst e2
  obtain ⟨t, rfl⟩ := r1
  obtain ⟨t', rfl⟩ := r2
  exact isub_int ⟨.int _, H, I.tok _, ⟨_, rfl⟩, q⟩
end
section
variable {X : Cx} {pos : Pos}
def tWhile (c : TT) (tb : TS) : TS := fun D σ H => ∃ W : Nat → St → Hp → Prop, (∃ m, W m σ H) ∧ ∀ m σ H, W m σ H →
  c σ H fun b H1 => if b = true then ∃ N : St → Hp → Prop, (∀ σ' H', N σ' H' → ∃ m', m' < m ∧ W m' σ' H') ∧ tb { D with nx := N, ct := N, bk := D.nx } σ H1 else D.nx σ H1
theorem ps_while {c : Expr} {body : List Stmt} {tc : TT} {tb : TS} (hp : PassesOwn (model X.prog X.w) X.A X.env X.xe) (hc : PT X c tc) (hb : PSs X body tb) : PS X (.While c body [] pos) (tWhile tc tb) := by
  intro pins s σ H D I h
  obtain ⟨W, ⟨m0, w0⟩, turn⟩ := h
  refine wpAny_While (codeAny_whileLoop (fun n s' => ∃ σ' H', Inv X pins σ' H' s' ∧ W n σ' H') ?_ m0 ⟨σ, H, I, w0⟩)
  rintro n s1 ⟨σ1, H1, I1, w1⟩
  refine wpAny_passesOwn hp (thn (hc pins s1 σ1 H1 _ I1 (turn n σ1 H1 w1)) fun b s2 ⟨H2, I2, q2⟩ => ?_)
  cases b with
  | true =>
    obtain ⟨N, hN, q2⟩ := q2
    rw [if_pos rfl]
    refine wpAny_passesOwn hp (thn (hb pins s2 σ1 H2 _ I2 q2) fun f s3 q3 => ?_)
    cases f with
    | next =>
      obtain ⟨σ3, H3, I3, n3⟩ := q3
      obtain ⟨m', hm, w3⟩ := hN σ3 H3 n3
      exact ⟨m', hm, σ3, H3, I3, w3⟩
    | cont =>
      obtain ⟨σ3, H3, I3, n3⟩ := q3
      obtain ⟨m', hm, w3⟩ := hN σ3 H3 n3
      exact ⟨m', hm, σ3, H3, I3, w3⟩
    | brk => exact q3
    | ret v => exact q3
  | false =>
    rw [if_neg Bool.false_ne_true]
    exact wpAny_execs_nil ⟨σ1, H2, I2, q2⟩
end
structure It where
  go : Nat → Hp → Prop
  yld : Nat → Hp → V → Hp → Prop
  stop : Nat → Hp → Prop
def FpOk (X : Cx) (pins : List (Addr × Obj)) (H : Hp) (b : Addr) : Prop :=
  H b = none ∧ b ≠ X.env.locals ∧ b ∉ X.fs ∧ (b ∈ X.ex ∨ X.s₀.heap.objs.size ≤ b) ∧ (∀ x c, X.env.cells.lookup x = some c → c ≠ b) ∧ ∀ p ∈ X.pn ++ pins, p.1 ≠ b
theorem Inv.fpOk {X : Cx} {pins : List (Addr × Obj)} {σ : St} {H H' : Hp} {s : Shared} {b : Addr} (I : Inv X pins σ H s) (hb : s.heap.objs.size ≤ b) (hn : H' b = none) : FpOk X pins H' b := by
  refine ⟨hn, Nat.ne_of_gt (Nat.lt_of_lt_of_le I.lt hb), I.nofs hb, .inr (Nat.le_trans I.sz hb), fun x c e z => ?_, fun p hp z => ?_⟩
  · obtain ⟨v, q⟩ := I.cell x c e
    exact absurd (Nat.lt_of_lt_of_le q.lt (by rw [z]; exact hb)) (Nat.lt_irrefl _)
  · exact absurd (Nat.lt_of_lt_of_le (Heap.lt_size (I.pin p hp).1) (by rw [z]; exact hb)) (Nat.lt_irrefl _)
structure Turn (P : Program) (w : World) (K : PySem.W.Frag) (tg : Expr) (J : It) (fp : List Addr) (it : Addr) (tn : Nat → Heap → Prop) : Prop where
  mem : it ∈ fp
  obj : ∀ i h, tn i h → ∀ b ∈ fp, ∃ o, h.get? b = some o ∧ ∀ v, o.data ≠ .cell v
  keep : ∀ i h h', tn i h → (∀ b ∈ fp, ∀ o, h.get? b = some o → h'.get? b = some o) → tn i h'
  item : ∀ (X : Cx), X.prog = P → X.w = w → X.K = K → X.calm = true → ∀ (i : Nat) (pins : List (Addr × Obj)) (s : Shared) (σ : St) (H : Hp) (E : Value → Shared → Prop), Inv X pins σ H s → (∀ b ∈ fp, FpOk X pins H b) → tn i s.heap → J.go i H →
    wpAny (model P w) X.A (pyNext (.ref it)) (fun r s1 => ∃ u, r = some u ∧
      wpAny (model P w) X.A (letOwnedTupleGo tg (.ref it) u) (fun _ s2 => ∃ x H', Inv X pins σ H' s2 ∧ RelV x u ∧ J.yld i H x H' ∧ tn (i + 1) s2.heap ∧ ∀ b ∈ fp, H' b = none) E s1) E s
  done : ∀ (X : Cx), X.prog = P → X.w = w → X.K = K → X.calm = true → ∀ (i : Nat) (pins : List (Addr × Obj)) (s : Shared) (σ : St) (H : Hp) (E : Value → Shared → Prop), Inv X pins σ H s → (∀ b ∈ fp, FpOk X pins H b) → tn i s.heap → J.stop i H →
    wpAny (model P w) X.A (pyNext (.ref it)) (fun r s1 => r = none ∧ Inv X pins σ H s1) E s
  self : ∀ (A : Around) (i : Nat) (s : Shared) (Q : Value → Shared → Prop) (E : Value → Shared → Prop), tn i s.heap → Q (.ref it) s → wpAny (model P w) A (pyIter (.ref it)) Q E s
abbrev TI := St → Hp → (It → Hp → Prop) → Prop
def PIE (X : Cx) (pins : List (Addr × Obj)) (σ : St) (tg : Expr) (R : It → Hp → Prop) (itv : Value) (s2 : Shared) : Prop :=
  ∃ (it : Addr) (fp : List Addr) (tn : Nat → Heap → Prop) (J : It) (H' : Hp), itv = .ref it ∧ Inv X pins σ H' s2 ∧ Turn X.prog X.w X.K tg J fp it tn ∧ tn 0 s2.heap ∧ (∀ b ∈ fp, FpOk X pins H' b) ∧ R J H'
def PI (X : Cx) (tg iter : Expr) (wi : TI) : Prop :=
  ∀ (pins : List (Addr × Obj)) (s : Shared) (σ : St) (H : Hp) (R : It → Hp → Prop), Inv X pins σ H s → wi σ H R →
    wpAny (model X.prog X.w) X.A (eval iter X.env) (fun v s1 => wpAny (model X.prog X.w) X.A (pyIter v) (PIE X pins σ tg R) X.xe s1) X.xe s
theorem go_of {M : Model} {A : Around} {E : Value → Shared → Prop} {s : Shared} {tg : Expr} {it : Addr} {u : Value} {o : Obj} {n : String} {vs : Array Value} {Q : Unit → Shared → Prop} (ho : s.heap.get? it = some o) (hc : o.cls = .type n) (hd : o.data = .fields vs)
    (hn : ["enumerate", "zip", "dict_itemiterator", "dict_reverseitemiterator", "odict_iterator", "itertools.zip_longest", "itertools.pairwise"].contains n = false) (hQ : Q () s) : wpAny M A (letOwnedTupleGo tg (.ref it) u) Q E s := by
  unfold letOwnedTupleGo
  cases tg <;> first
    | exact wpAny_pure hQ
    | (cases u <;> first
        | exact wpAny_pure hQ
        | (refine wpAny_bind (wpAny_load ho ?_)
           rw [hc, hd]
           show wpAny M A (if (["enumerate", "zip", "dict_itemiterator", "dict_reverseitemiterator", "odict_iterator", "itertools.zip_longest", "itertools.pairwise"].contains n && vs[0]? == some (rawInt _)) = true then _ else _) Q E s
           rw [if_neg (by intro h; rw [hn, Bool.false_and] at h; cases h)]
           exact wpAny_pure hQ))
def Itl (K : PySem.W.Frag) (a : Addr) : It :=
  ⟨fun i H => ∃ xs x, SqL K H a xs ∧ xs[i]? = some x, fun i H x H' => H' = H ∧ ∀ xs, SqL K H a xs → xs[i]? = some x, fun i H => ∃ xs, SqL K H a xs ∧ xs.length ≤ i⟩
def Itt (K : PySem.W.Frag) (a : Addr) : It :=
  ⟨fun i H => ∃ xs x, SqT K H a xs ∧ xs[i]? = some x, fun i H x H' => H' = H ∧ ∀ xs, SqT K H a xs → xs[i]? = some x, fun i H => ∃ xs, SqT K H a xs ∧ xs.length ≤ i⟩
def Itr (lo : Int) (n : Nat) : It := ⟨fun i _ => i < n, fun i H x H' => H' = H ∧ x = .int (lo + i), fun i _ => n ≤ i⟩
theorem turn_list {P : Program} {w : World} {K : PySem.W.Frag} {tg : Expr} (a it : Addr) : Turn P w K tg (Itl K a) [it] it (fun i h => h.IsListIter it a i) where
  mem := by simp
  obj := fun i h st b hb => by
    have e : b = it := by simpa using hb
    subst e
    obtain ⟨o, e, c, d⟩ := st
    exact ⟨o, e, fun v z => by rw [d] at z; cases z⟩
  keep := fun i h h' st k => st.at fun o e => k it (by simp) o e
  item := by
    intro X hP hw hK hc i pins s σ H E I hf st hg
    subst hP hw hK
    obtain ⟨xs, x, hq, hx⟩ := hg
    obtain ⟨its, rv, p, hz⟩ := I.list hq
    obtain ⟨u, hu, ru⟩ := rv.get hx
    obtain ⟨f0, f1, f2, f3, f4, f5⟩ := hf it (by simp)
    refine wpAny_pyNext_list_item st p.isList (x := u) (by simpa using hu) fun h' st' sb => ?_
    have I1 : Inv X pins σ H { s with heap := h' } := I.turned (t' := s.toks) (fun b o hb e => (sb.2 b hb).trans e) f0 f1 f3 f4 f5
    obtain ⟨o, e, c, d⟩ := id st'
    exact ⟨u, rfl, go_of (s := { s with heap := h' }) e c d (by decide) ⟨x, H, I1, ru, ⟨rfl, fun ys hy => by rw [I.list_inj hy hq]; exact hx⟩, st', fun b hb => (hf b hb).1⟩⟩
  done := by
    intro X hP hw hK hc i pins s σ H E I hf st hg
    subst hP hw hK
    obtain ⟨xs, hq, hx⟩ := hg
    obtain ⟨its, rv, p, hz⟩ := I.list hq
    obtain ⟨f0, f1, f2, f3, f4, f5⟩ := hf it (by simp)
    have hl := rv.length
    exact wpAny_pyNext_list_end (I.ok.hd hc) st p.isList (by simp; omega) fun h' eb => ⟨rfl, I.turned (t' := s.toks) (fun b o hb e => eb b o hb e) f0 f1 f3 f4 f5⟩
  self := fun _ _ _ _ _ st h => wpAny_pyIter_listiter st h
theorem turn_tuple {P : Program} {w : World} {K : PySem.W.Frag} {tg : Expr} (a it : Addr) : Turn P w K tg (Itt K a) [it] it (fun i h => h.IsTupleIter it a i) where
  mem := by simp
  obj := fun i h st b hb => by
    have e : b = it := by simpa using hb
    subst e
    obtain ⟨o, e, c, d⟩ := st
    exact ⟨o, e, fun v z => by rw [d] at z; cases z⟩
  keep := fun i h h' st k => st.at fun o e => k it (by simp) o e
  item := by
    intro X hP hw hK hc i pins s σ H E I hf st hg
    subst hP hw hK
    obtain ⟨xs, x, hq, hx⟩ := hg
    obtain ⟨its, rv, p, hz⟩ := I.tuple hq
    obtain ⟨u, hu, ru⟩ := rv.get hx
    obtain ⟨f0, f1, f2, f3, f4, f5⟩ := hf it (by simp)
    refine wpAny_pyNext_tuple_item st (show s.heap.IsTuple a its.toArray from p) (x := u) (by simpa using hu) fun h' st' sb => ?_
    have I1 : Inv X pins σ H { s with heap := h' } := I.turned (t' := s.toks) (fun b o hb e => (sb.2 b hb).trans e) f0 f1 f3 f4 f5
    obtain ⟨o, e, c, d⟩ := id st'
    exact ⟨u, rfl, go_of (s := { s with heap := h' }) e c d (by decide) ⟨x, H, I1, ru, ⟨rfl, fun ys hy => by rw [I.tuple_inj hy hq]; exact hx⟩, st', fun b hb => (hf b hb).1⟩⟩
  done := by
    intro X hP hw hK hc i pins s σ H E I hf st hg
    subst hP hw hK
    obtain ⟨xs, hq, hx⟩ := hg
    obtain ⟨its, rv, p, hz⟩ := I.tuple hq
    obtain ⟨f0, f1, f2, f3, f4, f5⟩ := hf it (by simp)
    have hl := rv.length
    exact wpAny_pyNext_tuple_end (I.ok.hd hc) st (show s.heap.IsTuple a its.toArray from p) (by simp; omega) fun h' eb => ⟨rfl, I.turned (t' := s.toks) (fun b o hb e => eb b o hb e) f0 f1 f3 f4 f5⟩
  self := fun _ _ _ _ _ st h => wpAny_pyIter_tupleiter st h
theorem turn_range {P : Program} {w : World} {K : PySem.W.Frag} {tg : Expr} (it : Addr) (lo : Int) (n : Nat) : Turn P w K tg (Itr lo n) [it] it (fun i h => IsRangeIter h it (lo + (i : Nat) * 1) ((n : Int) - (i : Nat)) 1) where
  mem := by simp
  obj := fun i h st b hb => by
    have e : b = it := by simpa using hb
    subst e
    exact ⟨_, st, fun v z => by
      have z' : Data.fields _ = Data.cell v := z
      cases z'⟩
  keep := fun i h h' st k => k it (by simp) _ st
  item := by
    intro X hP hw hK hc i pins s σ H E I hf st hg
    subst hP hw hK
    obtain ⟨f0, f1, f2, f3, f4, f5⟩ := hf it (by simp)
    have W := Walks.range (prog := X.prog) (w := X.w) (I.ok.hd hc) it lo 1 n
    refine W.item i s _ _ hg st fun v h' tk hv st' kk => ?_
    obtain ⟨t, rfl⟩ := hv
    have I1 : Inv X pins σ H { s with heap := h', toks := tk } := I.turned (fun b o hb e => kk b o (by simpa using hb) e) f0 f1 f3 f4 f5
    refine ⟨_, rfl, go_of (s := { s with heap := h', toks := tk }) (n := "range_iterator") st' rfl rfl (by decide) ⟨.int (lo + i), H, I1, ⟨t, ?_⟩, ⟨rfl, rfl⟩, st', fun b hb => (hf b hb).1⟩⟩
    rw [Int.mul_one]
  done := by
    intro X hP hw hK hc i pins s σ H E I hf st hg
    subst hP hw hK
    obtain ⟨f0, f1, f2, f3, f4, f5⟩ := hf it (by simp)
    exact wpAny_pyNext_range_end (I.ok.hd hc) st (by have : n ≤ i := hg; omega) fun h' eb => ⟨rfl, I.turned (t' := s.toks) (fun b o hb e => eb b o hb e) f0 f1 f3 f4 f5⟩
  self := fun _ _ _ _ _ st h => wpAny_pyIter_rangeiter st h
end L2
namespace L2
open PySem PySem.Spec PyProof.Rows
section
variable {X : Cx} {tg : Expr}
def iList (K : PySem.W.Frag) (tl : TE) : TI := fun σ H R => tl σ H fun x H1 => ∃ a, x = .ref a ∧ (∃ xs, SqL K H1 a xs) ∧ R (Itl K a) H1
def iTup (K : PySem.W.Frag) (tl : TE) : TI := fun σ H R => tl σ H fun x H1 => ∃ a, x = .ref a ∧ (∃ xs, SqT K H1 a xs) ∧ R (Itt K a) H1
theorem pi_list {l : Expr} {tl : TE} (hl : PE X l tl) : PI X tg l (iList X.K tl) := by
  intro pins s σ H R I h
  refine thn (hl pins s σ H _ I h) fun v s1 ⟨x, H1, I1, r1, q1⟩ => ?_
  obtain ⟨a, e, ⟨xs, hq⟩, q⟩ := q1
  subst e
  cases r1
  obtain ⟨its, rv, p, hz⟩ := I1.list hq
  refine wpAny_pyIter_list p.isList ?_
  refine ⟨s1.heap.objs.size, [s1.heap.objs.size], _, _, H1, rfl, I1.kept (t' := s1.toks) fun b o e => Heap.get?_push_of_some _ e, turn_list a _, ⟨_, Heap.get?_push_size _ rfl, rfl, rfl⟩, fun b hb => ?_, q⟩
  have e : b = s1.heap.objs.size := by simpa using hb
  subst e
  exact I1.fpOk (Nat.le_refl _) (I1.hok.fresh (Nat.le_refl _))
theorem pi_tup {l : Expr} {tl : TE} (hl : PE X l tl) : PI X tg l (iTup X.K tl) := by
  intro pins s σ H R I h
  refine thn (hl pins s σ H _ I h) fun v s1 ⟨x, H1, I1, r1, q1⟩ => ?_
  obtain ⟨a, e, ⟨xs, hq⟩, q⟩ := q1
  subst e
  cases r1
  obtain ⟨its, rv, p, hz⟩ := I1.tuple hq
  refine wpAny_pyIter_tuple (show s1.heap.IsTuple a its.toArray from p) ?_
  refine ⟨s1.heap.objs.size, [s1.heap.objs.size], _, _, H1, rfl, I1.kept (t' := s1.toks) fun b o e => Heap.get?_push_of_some _ e, turn_tuple a _, ⟨_, Heap.get?_push_size _ rfl, rfl, rfl⟩, fun b hb => ?_, q⟩
  have e : b = s1.heap.objs.size := by simpa using hb
  subst e
  exact I1.fpOk (Nat.le_refl _) (I1.hok.fresh (Nat.le_refl _))
theorem range_it {pins : List (Addr × Obj)} {σ : St} {H : Hp} {s : Shared} {R : It → Hp → Prop} {E : Value → Shared → Prop} {lo hi : Int} {t u v : Tok} {tk : Nat} (I : Inv X pins σ H s) (h1 : -(2 ^ 62) ≤ lo) (h2 : lo < 2 ^ 62) (h3 : -(2 ^ 62) ≤ hi) (h4 : hi < 2 ^ 62)
    (q : R (Itr lo (hi - lo).toNat) H) : wpAny (model X.prog X.w) X.A (pyIter (.ref s.heap.objs.size)) (PIE X pins σ tg R) E { s with heap := s.heap.push { cls := .type "range", data := .fields #[.int lo t, .int hi u, .int 1 v] }, toks := tk } := by
  refine wpAny_pyIter_range (IsRange.new ..) (small_one h1 h2 h3 h4) ?_
  have I1 : Inv X pins σ H { s with heap := s.heap.push { cls := .type "range", data := .fields #[.int lo t, .int hi u, .int 1 v] }, toks := tk } := I.kept fun b o e => Heap.get?_push_of_some _ e
  refine ⟨(s.heap.push { cls := .type "range", data := .fields #[.int lo t, .int hi u, .int 1 v] }).objs.size, [(s.heap.push { cls := .type "range", data := .fields #[.int lo t, .int hi u, .int 1 v] }).objs.size], _, _, H, rfl,
    I1.kept (t' := tk) fun b o e => Heap.get?_push_of_some _ e, turn_range _ lo (hi - lo).toNat, ?_, fun b hb => ?_, q⟩
  · have e1 : lo + ((0 : Nat) : Int) * 1 = lo := by simp
    have e2 : (((hi - lo).toNat : Nat) : Int) - ((0 : Nat) : Int) = Builtin.Range.rangeSize lo hi 1 := by rw [rangeSize_one]; split <;> omega
    show IsRangeIter _ _ (lo + ((0 : Nat) : Int) * 1) ((((hi - lo).toNat : Nat) : Int) - ((0 : Nat) : Int)) 1
    rw [e1, e2]
    exact Heap.get?_push_size _ rfl
  · have e : b = (s.heap.push { cls := .type "range", data := .fields #[.int lo t, .int hi u, .int 1 v] }).objs.size := by simpa using hb
    subst e
    exact I1.fpOk (Nat.le_refl _) (I1.hok.fresh (Nat.le_refl _))
def iRng1 (ta : TA) : TI := fun σ H R => ta σ H fun vs H1 => ∃ j : Int, vs = [.int j] ∧ -(2 ^ 62) ≤ j ∧ j < 2 ^ 62 ∧ R (Itr 0 j.toNat) H1
def iRng2 (ta : TA) : TI := fun σ H R => ta σ H fun vs H1 => ∃ i j : Int, vs = [.int i, .int j] ∧ (-(2 ^ 62) ≤ i ∧ i < 2 ^ 62 ∧ -(2 ^ 62) ≤ j ∧ j < 2 ^ 62) ∧ R (Itr i (j - i).toNat) H1
theorem pi_range1 {a : Expr} {ta : TA} {p pos : Pos} (hg : Gl X "range") (hm : X.mg "range" = none) (ha : PA X [a] ta) (hs : starEach [a] X.env = [(false, eval a X.env)] := by rfl) : PI X tg (.Call (.Name "range" p) [a] [] pos) (iRng1 ta) := by
  intro pins s σ H R I h
  refine Call_ (ld_blt I hg hm boot_range (PyProof.Rows.callWith_type1 (thn (ha pos pins s σ H _ I h) fun us s1 ⟨vs, H1, I1, r1, q1⟩ => ?_) hs rfl))
  obtain ⟨j, e, q1, q2, q⟩ := q1
  subst e
  cases r1 with
  | cons r rr =>
    cases rr
    obtain ⟨t, rfl⟩ := r
    exact call_range_1 (range_it I1 (by omega) (by omega) q1 q2 (by simpa using q))
theorem pi_range2 {a b : Expr} {ta : TA} {p pos : Pos} (hg : Gl X "range") (hm : X.mg "range" = none) (ha : PA X [a, b] ta) (hs : starEach [a, b] X.env = [(false, eval a X.env), (false, eval b X.env)] := by rfl) (hs2 : starEach [b] X.env = [(false, eval b X.env)] := by rfl) :
    PI X tg (.Call (.Name "range" p) [a, b] [] pos) (iRng2 ta) := by
  intro pins s σ H R I h
  refine Call_ (ld_blt I hg hm boot_range (PyProof.Rows.callWith_type1 (thn (ha pos pins s σ H _ I h) fun us s1 ⟨vs, H1, I1, r1, q1⟩ => ?_) (by rw [hs, hs2]) (by rw [hs2]; rfl)))
  obtain ⟨i, j, e, ⟨q1, q2, q3, q4⟩, q⟩ := q1
  subst e
  cases r1 with
  | cons r rr =>
    cases rr with
    | cons r' rr =>
      cases rr
      obtain ⟨t, rfl⟩ := r
      obtain ⟨t', rfl⟩ := r'
      exact call_range_2 (range_it I1 q1 q2 q3 q4 q)
def tFor (wi : TI) (g : TG) (tb : TS) : TS := fun D σ H => wi σ H fun J H1 => ∃ W : Nat → Nat → St → Hp → Prop, (∃ m, W 0 m σ H1) ∧ ∀ i m σ H, W i m σ H →
  (J.stop i H ∧ D.nx σ H) ∨ (J.go i H ∧ ∃ N : St → Hp → Prop, (∀ σ' H', N σ' H' → ∃ m', m' < m ∧ W (i + 1) m' σ' H') ∧ ∀ x H', J.yld i H x H' → g x σ H' fun σ2 H2 => tb { D with nx := N, ct := N, bk := D.nx } σ2 H2)
def pinsAt (fp : List Addr) (h : Heap) : List (Addr × Obj) := fp.filterMap fun b => (h.get? b).map fun o => (b, o)
theorem mem_pinsAt {fp : List Addr} {h : Heap} {b : Addr} {o : Obj} (hb : b ∈ fp) (e : h.get? b = some o) : (b, o) ∈ pinsAt fp h := List.mem_filterMap.mpr ⟨b, hb, by rw [e]; rfl⟩
theorem of_pinsAt {fp : List Addr} {h : Heap} {p : Addr × Obj} (hp : p ∈ pinsAt fp h) : p.1 ∈ fp ∧ h.get? p.1 = some p.2 := by
  obtain ⟨b, hb, e⟩ := List.mem_filterMap.mp hp
  cases q : h.get? b with
  | none => rw [q] at e; cases e
  | some o =>
    rw [q] at e
    have e' : (b, o) = p := Option.some.inj e
    subst e'
    exact ⟨hb, q⟩
theorem Inv.pinned {pins : List (Addr × Obj)} {σ : St} {H : Hp} {s : Shared} {fp : List Addr} (I : Inv X pins σ H s) (hf : ∀ b ∈ fp, FpOk X pins H b) (ho : ∀ b ∈ fp, ∃ o, s.heap.get? b = some o ∧ ∀ v, o.data ≠ .cell v) : Inv X (pins ++ pinsAt fp s.heap) σ H s :=
  I.pins_of fun p hp => (List.mem_append.mp hp).elim (fun z => I.pin p (List.mem_append_right _ z)) fun z => by
    obtain ⟨hb, e⟩ := of_pinsAt z
    obtain ⟨f0, f1, f2, _⟩ := hf p.1 hb
    obtain ⟨o, e', d⟩ := ho p.1 hb
    rw [e] at e'; cases e'
    exact ⟨e, f0, f1, f2, d⟩
theorem Inv.unpinned {pins pl : List (Addr × Obj)} {σ : St} {H : Hp} {s : Shared} (I : Inv X (pins ++ pl) σ H s) : Inv X pins σ H s := I.pins_of fun p hp => I.pin p (List.mem_append_right _ (List.mem_append_left _ hp))
theorem ps_for {iter : Expr} {body : List Stmt} {wi : TI} {g : TG} {tb : TS} {pos : Pos} (hp : PassesOwn (model X.prog X.w) X.A X.env X.xe) (hc : X.calm = true) (hi : PI X tg iter wi) (hg : PG X tg g) (hb : PSs X body tb)
    (hs : ∀ x, foldedSetIterable iter X.env x = pure x := by intro _; rfl) : PS X (.For tg iter body [] pos) (tFor wi g tb) := by
  intro pins s σ H D I h
  refine wpAny_For (thn (hi pins s σ H _ I h) fun v s1 h1 => thn h1 fun itv s2 h2 => ?_) hs
  obtain ⟨it, fp, tn, J, H2, e, I2, T, st2, f2, W, ⟨m0, w0⟩, turn⟩ := h2
  subst e
  have stat : ∀ {H' : Hp}, (∀ b ∈ fp, H' b = none) → ∀ b ∈ fp, FpOk X pins H' b := fun hn b hb => ⟨hn b hb, (f2 b hb).2⟩
  refine codeAny_forLoop_any (fun n s' => ∃ i σ' H', Inv X pins σ' H' s' ∧ tn i s'.heap ∧ (∀ b ∈ fp, H' b = none) ∧ W i n σ' H') ?_ m0 ⟨0, σ, H2, I2, st2, fun b hb => (f2 b hb).1, w0⟩
  rintro n s3 ⟨i, σ3, H3, I3, st3, fr3, w3⟩
  rcases turn i n σ3 H3 w3 with ⟨stop, qn⟩ | ⟨go, N, hN, step⟩
  · refine wpAny_passesOwn hp (thn (T.done X rfl rfl rfl hc i pins s3 σ3 H3 X.xe I3 (stat fr3) st3 stop) fun r s4 ⟨hr, I4⟩ => ?_)
    subst hr
    exact wpAny_execs_nil ⟨σ3, H3, I4, qn⟩
  · refine wpAny_passesOwn hp (thn (T.item X rfl rfl rfl hc i pins s3 σ3 H3 X.xe I3 (stat fr3) st3 go) fun r s4 ⟨u, hr, h4⟩ => ?_)
    subst hr
    refine wpAny_passesOwn hp (thn h4 fun _ s5 ⟨x, H5, I5, r5, y5, st5, fr5⟩ => ?_)
    have I5' := I5.pinned (stat fr5) (T.obj _ _ st5)
    refine wpAny_passesOwn hp (thn (hg _ s5 σ3 H5 x u _ I5' r5 (step x H5 y5)) fun _ s6 ⟨σ6, H6, I6, q6⟩ => ?_)
    refine wpAny_passesOwn hp (thn (hb _ s6 σ6 H6 _ I6 q6) fun f s7 q7 => ?_)
    have again : ∀ {σ7 : St} {H7 : Hp}, Inv X (pins ++ pinsAt fp s5.heap) σ7 H7 s7 → N σ7 H7 → ∃ m, m < n ∧ ∃ i σ' H', Inv X pins σ' H' s7 ∧ tn i s7.heap ∧ (∀ b ∈ fp, H' b = none) ∧ W i m σ' H' := fun {σ7 H7} I7 n7 => by
      obtain ⟨m', hm, w7⟩ := hN σ7 H7 n7
      refine ⟨m', hm, i + 1, σ7, H7, I7.unpinned, T.keep _ _ _ st5 fun b hb o e => (I7.pin (b, o) (List.mem_append_right _ (List.mem_append_right _ (mem_pinsAt hb e)))).1, fun b hb => ?_, w7⟩
      obtain ⟨o, e, d⟩ := T.obj _ _ st5 b hb
      exact (I7.pin (b, o) (List.mem_append_right _ (List.mem_append_right _ (mem_pinsAt hb e)))).2.1
    cases f with
    | next => obtain ⟨σ7, H7, I7, n7⟩ := q7; exact again I7 n7
    | cont => obtain ⟨σ7, H7, I7, n7⟩ := q7; exact again I7 n7
    | brk => obtain ⟨σ7, H7, I7, q7⟩ := q7; exact ⟨σ7, H7, I7.unpinned, q7⟩
    | ret v => obtain ⟨x7, σ7, H7, I7, r7, q7⟩ := q7; exact ⟨x7, σ7, H7, I7.unpinned, r7, q7⟩
end
theorem for_list {K : PySem.W.Frag} {a : Addr} {xs : List V} {g : TG} {tb : TS} {D : Ends} {σ : St} {H : Hp} (Pv : Nat → St → Hp → Prop) (h0 : Pv 0 σ H) (hl : ∀ i σ H, i ≤ xs.length → Pv i σ H → SqL K H a xs)
    (hs : ∀ i x σ H, xs[i]? = some x → Pv i σ H → g x σ H fun σ2 H2 => tb { D with nx := Pv (i + 1), ct := Pv (i + 1), bk := D.nx } σ2 H2) (hd : ∀ σ H, Pv xs.length σ H → D.nx σ H) :
    ∃ W : Nat → Nat → St → Hp → Prop, (∃ m, W 0 m σ H) ∧ ∀ i m σ H, W i m σ H →
      ((Itl K a).stop i H ∧ D.nx σ H) ∨ ((Itl K a).go i H ∧ ∃ N : St → Hp → Prop, (∀ σ' H', N σ' H' → ∃ m', m' < m ∧ W (i + 1) m' σ' H') ∧ ∀ x H', (Itl K a).yld i H x H' → g x σ H' fun σ2 H2 => tb { D with nx := N, ct := N, bk := D.nx } σ2 H2) := by
  refine ⟨fun i m σ H => m = xs.length - i ∧ i ≤ xs.length ∧ Pv i σ H, ⟨xs.length, by simp, Nat.zero_le _, h0⟩, ?_⟩
  rintro i m σ H ⟨rfl, hi, p⟩
  have q := hl i σ H hi p
  by_cases hlt : i < xs.length
  · refine .inr ⟨⟨xs, xs[i], q, by simp [hlt]⟩, Pv (i + 1), fun σ' H' p' => ⟨xs.length - (i + 1), by omega, rfl, hlt, p'⟩, fun x H' y => ?_⟩
    obtain ⟨e, y⟩ := y
    subst e
    exact hs i x σ _ (y xs q) p
  · have e : i = xs.length := by omega
    subst e
    exact .inl ⟨⟨xs, q, Nat.le_refl _⟩, hd σ H p⟩
theorem for_tup {K : PySem.W.Frag} {a : Addr} {xs : List V} {g : TG} {tb : TS} {D : Ends} {σ : St} {H : Hp} (Pv : Nat → St → Hp → Prop) (h0 : Pv 0 σ H) (hl : ∀ i σ H, i ≤ xs.length → Pv i σ H → SqT K H a xs)
    (hs : ∀ i x σ H, xs[i]? = some x → Pv i σ H → g x σ H fun σ2 H2 => tb { D with nx := Pv (i + 1), ct := Pv (i + 1), bk := D.nx } σ2 H2) (hd : ∀ σ H, Pv xs.length σ H → D.nx σ H) :
    ∃ W : Nat → Nat → St → Hp → Prop, (∃ m, W 0 m σ H) ∧ ∀ i m σ H, W i m σ H →
      ((Itt K a).stop i H ∧ D.nx σ H) ∨ ((Itt K a).go i H ∧ ∃ N : St → Hp → Prop, (∀ σ' H', N σ' H' → ∃ m', m' < m ∧ W (i + 1) m' σ' H') ∧ ∀ x H', (Itt K a).yld i H x H' → g x σ H' fun σ2 H2 => tb { D with nx := N, ct := N, bk := D.nx } σ2 H2) := by
  refine ⟨fun i m σ H => m = xs.length - i ∧ i ≤ xs.length ∧ Pv i σ H, ⟨xs.length, by simp, Nat.zero_le _, h0⟩, ?_⟩
  rintro i m σ H ⟨rfl, hi, p⟩
  have q := hl i σ H hi p
  by_cases hlt : i < xs.length
  · refine .inr ⟨⟨xs, xs[i], q, by simp [hlt]⟩, Pv (i + 1), fun σ' H' p' => ⟨xs.length - (i + 1), by omega, rfl, hlt, p'⟩, fun x H' y => ?_⟩
    obtain ⟨e, y⟩ := y
    subst e
    exact hs i x σ _ (y xs q) p
  · have e : i = xs.length := by omega
    subst e
    exact .inl ⟨⟨xs, q, Nat.le_refl _⟩, hd σ H p⟩
theorem for_range {lo : Int} {n : Nat} {g : TG} {tb : TS} {D : Ends} {σ : St} {H : Hp} (Pv : Nat → St → Hp → Prop) (h0 : Pv 0 σ H)
    (hs : ∀ i σ H, i < n → Pv i σ H → g (.int (lo + i)) σ H fun σ2 H2 => tb { D with nx := Pv (i + 1), ct := Pv (i + 1), bk := D.nx } σ2 H2) (hd : ∀ σ H, Pv n σ H → D.nx σ H) :
    ∃ W : Nat → Nat → St → Hp → Prop, (∃ m, W 0 m σ H) ∧ ∀ i m σ H, W i m σ H →
      ((Itr lo n).stop i H ∧ D.nx σ H) ∨ ((Itr lo n).go i H ∧ ∃ N : St → Hp → Prop, (∀ σ' H', N σ' H' → ∃ m', m' < m ∧ W (i + 1) m' σ' H') ∧ ∀ x H', (Itr lo n).yld i H x H' → g x σ H' fun σ2 H2 => tb { D with nx := N, ct := N, bk := D.nx } σ2 H2) := by
  refine ⟨fun i m σ H => m = n - i ∧ i ≤ n ∧ Pv i σ H, ⟨n, by simp, Nat.zero_le _, h0⟩, ?_⟩
  rintro i m σ H ⟨rfl, hi, p⟩
  by_cases hlt : i < n
  · refine .inr ⟨hlt, Pv (i + 1), fun σ' H' p' => ⟨n - (i + 1), by omega, rfl, hlt, p'⟩, fun x H' y => ?_⟩
    obtain ⟨e, y⟩ := y
    subst e y
    exact hs i σ _ hlt p
  · have e : i = n := by omega
    subst e
    exact .inl ⟨Nat.le_refl _, hd σ H p⟩
theorem while_by {c : TT} {tb : TS} {D : Ends} {σ : St} {H : Hp} (Pv : St → Hp → Prop) (μ : St → Hp → Nat) (h0 : Pv σ H)
    (hs : ∀ σ H, Pv σ H → c σ H fun b H1 => if b = true then tb { D with nx := fun σ' H' => Pv σ' H' ∧ μ σ' H' < μ σ H, ct := fun σ' H' => Pv σ' H' ∧ μ σ' H' < μ σ H, bk := D.nx } σ H1 else D.nx σ H1)
    (mono : ∀ σ H Q Q', (∀ b H1, Q b H1 → Q' b H1) → c σ H Q → c σ H Q') : tWhile c tb D σ H := by
  refine ⟨fun m σ H => m = μ σ H ∧ Pv σ H, ⟨_, rfl, h0⟩, ?_⟩
  rintro m σ H ⟨rfl, p⟩
  refine mono σ H _ _ (fun b H1 q => ?_) (hs σ H p)
  cases b with
  | true => exact ⟨_, fun σ' H' ⟨p', l⟩ => ⟨_, l, rfl, p'⟩, q⟩
  | false => exact q
end L2
namespace L2
open PySem PySem.Spec PyProof.Rows
abbrev R2 := V → V → Hp → VK → Prop
def OpR (X : Cx) (f : Value → Value → Sem Value) (r : R2) : Prop :=
  ∀ (pins : List (Addr × Obj)) (s : Shared) (σ : St) (H : Hp) (x y : V) (v u : Value) (Q : VK), Inv X pins σ H s → RelV x v → RelV y u → r x y H Q →
    wpAny (model X.prog X.w) X.A (f v u) (EP X pins σ Q) X.xe s
def UnR (X : Cx) (f : Value → Sem Value) (r : V → Hp → VK → Prop) : Prop :=
  ∀ (pins : List (Addr × Obj)) (s : Shared) (σ : St) (H : Hp) (x : V) (v : Value) (Q : VK), Inv X pins σ H s → RelV x v → r x H Q →
    wpAny (model X.prog X.w) X.A (f v) (EP X pins σ Q) X.xe s
def CallR (X : Cx) (f : Value) (r : List V → Hp → VK → Prop) : Prop :=
  ∀ (pins : List (Addr × Obj)) (s : Shared) (σ : St) (H : Hp) (xs : List V) (us : List Value) (Q : VK), Inv X pins σ H s → Vals xs us → r xs H Q →
    wpAny (model X.prog X.w) X.A (call f us) (EP X pins σ Q) X.xe s
def TruR (X : Cx) (r : V → Hp → (Bool → Hp → Prop) → Prop) : Prop :=
  ∀ (pins : List (Addr × Obj)) (s : Shared) (σ : St) (H : Hp) (x : V) (v : Value) (Q : Bool → Hp → Prop), Inv X pins σ H s → RelV x v → r x H Q →
    wpAny (model X.prog X.w) X.A (truthy v) (TP X pins σ Q) X.xe s
def tOp (r : R2) (ta tb : TE) : TE := fun σ H Q => ta σ H fun x H1 => tb σ H1 fun y H2 => r x y H2 Q
def tUn (r : V → Hp → VK → Prop) (ta : TE) : TE := fun σ H Q => ta σ H fun x H1 => r x H1 Q
def rI (C : Int → Int → Prop) (g : Int → Int → V) : R2 := fun x y H Q => ∃ i j, x = .int i ∧ y = .int j ∧ C i j ∧ Q (g i j) H
def rI0 (g : Int → Int → V) : R2 := fun x y H Q => ∃ i j, x = .int i ∧ y = .int j ∧ Q (g i j) H
def rU (g : Int → V) : V → Hp → VK → Prop := fun x H Q => ∃ i, x = .int i ∧ Q (g i) H
section
variable {X : Cx} {a b c : Expr} {ta tb tc : TE} {pos : Pos}
theorem binT (ha : PE X a ta) (hb : PE X b tb) {pins : List (Addr × Obj)} {s : Shared} {σ : St} {H : Hp} {R : V → V → Hp → Prop} (I : Inv X pins σ H s)
    (h : ta σ H fun x H1 => tb σ H1 fun y H2 => R x y H2) {Q : Value → Shared → Prop} {f : Value → Value → Sem Value}
    (hf : ∀ v u s2 x y H2, Inv X pins σ H2 s2 → RelV x v → RelV y u → R x y H2 → wpAny (model X.prog X.w) X.A (f v u) Q X.xe s2) :
    wpAny (model X.prog X.w) X.A (eval a X.env) (fun v s₁ => wpAny (model X.prog X.w) X.A (eval b X.env) (fun u s₂ => wpAny (model X.prog X.w) X.A (f v u) Q X.xe s₂) X.xe s₁) X.xe s := by
  refine thn (ha pins s σ H _ I h) fun v s1 ⟨x, H1, I1, r1, q1⟩ => ?_
  refine thn (hb pins s1 σ H1 _ I1 q1) fun u s2 ⟨y, H2, I2, r2, q2⟩ => ?_
  exact hf v u s2 x y H2 I2 r1 r2 q2
theorem pe_op {op : Operator} {r : R2} (ho : OpR X (binaryOp op) r) (ha : PE X a ta) (hb : PE X b tb) : PE X (.BinOp a op b pos) (tOp r ta tb) := by
  intro pins s σ H Q I h
  exact wpAny_BinOp (binT ha hb I h fun v u s2 x y H2 I2 rx ry q => ho pins s2 σ H2 x y v u Q I2 rx ry q)
theorem pe_un {op : UnaryOp} {r : V → Hp → VK → Prop} (ho : UnR X (unaryOp op) r) (ha : PE X a ta) : PE X (.UnaryOp op a pos) (tUn r ta) := by
  intro pins s σ H Q I h
  exact UnaryOp_ (thn (ha pins s σ H _ I h) fun v s1 ⟨x, H1, I1, r1, q1⟩ => ho pins s1 σ H1 x v Q I1 r1 q1)
theorem augR {op : Operator} {r : R2} (ho : OpR X (inplaceOp op) r) {pins : List (Addr × Obj)} {s : Shared} {σ : St} {H : Hp} {x y : V} {v u : Value} {Q : VK} (I : Inv X pins σ H s)
    (rx : RelV x v) (ry : RelV y u) (q : r x y H Q) : wpAny (model X.prog X.w) X.A (inplaceOp op v u) (EP X pins σ Q) X.xe s := ho pins s σ H x y v u Q I rx ry q
theorem opI {f : Value → Value → Sem Value} {C : Int → Int → Prop} {g : Int → Int → Int}
    (rule : ∀ (i j : Int) (t u : Tok) (s : Shared) (Q : Value → Shared → Prop) (E : Value → Shared → Prop), C i j → Q (.int (g i j) s.toks) { s with toks := s.toks + 1 } → wpAny (model X.prog X.w) X.A (f (.int i t) (.int j u)) Q E s) :
    OpR X f (rI C fun i j => .int (g i j)) := by
  intro pins s σ H x y v u Q I rx ry h
  obtain ⟨i, j, rfl, rfl, hc, q⟩ := h
  obtain ⟨t, rfl⟩ := rx
  obtain ⟨t', rfl⟩ := ry
  exact rule i j t t' s _ _ hc ⟨.int (g i j), H, I.tok _, ⟨_, rfl⟩, q⟩
theorem opI0 {f : Value → Value → Sem Value} {g : Int → Int → Int}
    (rule : ∀ (i j : Int) (t u : Tok) (s : Shared) (Q : Value → Shared → Prop) (E : Value → Shared → Prop), Q (.int (g i j) s.toks) { s with toks := s.toks + 1 } → wpAny (model X.prog X.w) X.A (f (.int i t) (.int j u)) Q E s) :
    OpR X f (rI0 fun i j => .int (g i j)) := by
  intro pins s σ H x y v u Q I rx ry h
  obtain ⟨i, j, rfl, rfl, q⟩ := h
  obtain ⟨t, rfl⟩ := rx
  obtain ⟨t', rfl⟩ := ry
  exact rule i j t t' s _ _ ⟨.int (g i j), H, I.tok _, ⟨_, rfl⟩, q⟩
theorem opB0 {f : Value → Value → Sem Value} {g : Int → Int → Bool}
    (rule : ∀ (i j : Int) (t u : Tok) (s : Shared) (Q : Value → Shared → Prop) (E : Value → Shared → Prop), Q (.bool (g i j)) s → wpAny (model X.prog X.w) X.A (f (.int i t) (.int j u)) Q E s) :
    OpR X f (rI0 fun i j => .bl (g i j)) := by
  intro pins s σ H x y v u Q I rx ry h
  obtain ⟨i, j, rfl, rfl, q⟩ := h
  obtain ⟨t, rfl⟩ := rx
  obtain ⟨t', rfl⟩ := ry
  exact rule i j t t' s _ _ ⟨.bl (g i j), H, I, rfl, q⟩
def CDiv (i j : Int) : Prop := 0 < j ∧ j < 1073741824
def CDivN (i j : Int) : Prop := j ≠ 0 ∧ j.natAbs < 1073741824
def CPow (i j : Int) : Prop := 0 ≤ j ∧ j ≤ 1000000 ∧ i.natAbs < 2 ^ 64
def CMul (i j : Int) : Prop := (-(2 ^ 64) < i ∧ i < 2 ^ 64) ∨ (-(2 ^ 64) < j ∧ j < 2 ^ 64)
theorem CMul.ok {i j : Int} (h : CMul i j) : IntMulOk i j := by
  rcases h with ⟨h1, h2⟩ | ⟨h1, h2⟩
  · exact .of_left (intBits_le_64 h1 h2)
  · exact .of_right (intBits_le_64 h1 h2)
theorem two_pow_nn (k : Nat) : (0 : Int) ≤ 2 ^ k := by
  rw [two_pow_cast]
  exact Int.natCast_nonneg _
theorem op_add : OpR X (binaryOp .Add) (rI0 fun i j => .int (i + j)) := opI0 fun _ _ _ _ _ _ _ q => add_int q
theorem op_sub : OpR X (binaryOp .Sub) (rI0 fun i j => .int (i - j)) := opI0 fun _ _ _ _ _ _ _ q => sub_int q
theorem op_mul : OpR X (binaryOp .Mult) (rI CMul fun i j => .int (i * j)) := opI fun _ _ _ _ _ _ _ hc q => mul_int q hc.ok
theorem op_fdiv : OpR X (binaryOp .FloorDiv) (rI CDiv fun i j => .int (i / j)) := opI fun i j _ _ _ _ _ hc q => by
  have h1 : (0 : Int) < j := hc.1
  have h2 : j < 1073741824 := hc.2
  exact floordiv_int (by omega) (by rw [Int.fdiv_eq_ediv_of_nonneg i (by omega)]; exact q) (.inl (PyProof.noPylong_small (by omega)))
theorem op_fdivN : OpR X (binaryOp .FloorDiv) (rI CDivN fun i j => .int (i.fdiv j)) := opI fun _ _ _ _ _ _ _ hc q => floordiv_int hc.1 q (.inl (PyProof.noPylong_small hc.2))
theorem op_mod : OpR X (binaryOp .Mod) (rI (fun _ j => 0 < j) fun i j => .int (i % j)) := opI fun i j _ _ _ _ _ hc q => by
  have h1 : (0 : Int) < j := hc
  exact mod_int' (by omega) (by rw [Int.fmod_eq_emod_of_nonneg i (by omega)]; exact q)
theorem op_modN : OpR X (binaryOp .Mod) (rI (fun _ j => j ≠ 0) fun i j => .int (i.fmod j)) := opI fun _ _ _ _ _ _ _ hc q => mod_int' hc q
theorem op_pow : OpR X (binaryOp .Pow) (rI CPow fun i j => .int (i ^ j.toNat)) := opI fun _ _ _ _ _ _ _ hc q => pow_int_small hc.1 hc.2.1 hc.2.2 q
theorem op_shl : OpR X (binaryOp .LShift) (rI CPow fun i j => .int (i * 2 ^ j.toNat)) := opI fun _ _ _ _ _ _ _ hc q => lshift_int_small hc.1 hc.2.1 hc.2.2 q
theorem op_shr : OpR X (binaryOp .RShift) (rI (fun _ j => 0 ≤ j) fun i j => .int (i / 2 ^ j.toNat)) := opI fun i j _ _ _ _ _ hc q =>
  rshift_int hc (by rw [Int.fdiv_eq_ediv_of_nonneg i (two_pow_nn _)]; exact q)
theorem op_and : OpR X (binaryOp .BitAnd) (rI0 fun i j => .int (Builtin.bitAnd i j)) := opI0 fun _ _ _ _ _ _ _ q => and_int q
theorem op_or : OpR X (binaryOp .BitOr) (rI0 fun i j => .int (Builtin.bitOr i j)) := opI0 fun _ _ _ _ _ _ _ q => or_int q
theorem op_xor : OpR X (binaryOp .BitXor) (rI0 fun i j => .int (Builtin.bitXor i j)) := opI0 fun _ _ _ _ _ _ _ q => xor_int q
theorem iop_add : OpR X (inplaceOp .Add) (rI0 fun i j => .int (i + j)) := opI0 fun _ _ _ _ _ _ _ q => iadd_int q
theorem iop_sub : OpR X (inplaceOp .Sub) (rI0 fun i j => .int (i - j)) := opI0 fun _ _ _ _ _ _ _ q => isub_int q
theorem iop_mul : OpR X (inplaceOp .Mult) (rI CMul fun i j => .int (i * j)) := opI fun _ _ _ _ _ _ _ hc q => imul_int q hc.ok
theorem iop_fdiv : OpR X (inplaceOp .FloorDiv) (rI CDiv fun i j => .int (i / j)) := opI fun i j _ _ _ _ _ hc q => by
  have h1 : (0 : Int) < j := hc.1
  have h2 : j < 1073741824 := hc.2
  exact ifloordiv_int (by omega) (by rw [Int.fdiv_eq_ediv_of_nonneg i (by omega)]; exact q) (.inl (PyProof.noPylong_small (by omega)))
theorem iop_mod : OpR X (inplaceOp .Mod) (rI (fun _ j => 0 < j) fun i j => .int (i % j)) := opI fun i j _ _ _ _ _ hc q => by
  have h1 : (0 : Int) < j := hc
  exact imod_int (by omega) (by rw [Int.fmod_eq_emod_of_nonneg i (by omega)]; exact q)
theorem iop_shl : OpR X (inplaceOp .LShift) (rI CPow fun i j => .int (i * 2 ^ j.toNat)) := opI fun _ _ _ _ _ _ _ hc q => ilshift_int_small hc.1 hc.2.1 hc.2.2 q
theorem iop_shr : OpR X (inplaceOp .RShift) (rI (fun _ j => 0 ≤ j) fun i j => .int (i / 2 ^ j.toNat)) := opI fun i j _ _ _ _ _ hc q =>
  irshift_int hc (by rw [Int.fdiv_eq_ediv_of_nonneg i (two_pow_nn _)]; exact q)
theorem iop_and : OpR X (inplaceOp .BitAnd) (rI0 fun i j => .int (Builtin.bitAnd i j)) := opI0 fun _ _ _ _ _ _ _ q => iand_int q
theorem iop_or : OpR X (inplaceOp .BitOr) (rI0 fun i j => .int (Builtin.bitOr i j)) := opI0 fun _ _ _ _ _ _ _ q => ior_int q
theorem iop_xor : OpR X (inplaceOp .BitXor) (rI0 fun i j => .int (Builtin.bitXor i j)) := opI0 fun _ _ _ _ _ _ _ q => ixor_int q
theorem unI {f : Value → Sem Value} {g : Int → Int}
    (rule : ∀ (i : Int) (t : Tok) (s : Shared) (Q : Value → Shared → Prop) (E : Value → Shared → Prop), Q (.int (g i) s.toks) { s with toks := s.toks + 1 } → wpAny (model X.prog X.w) X.A (f (.int i t)) Q E s) :
    UnR X f (rU fun i => .int (g i)) := by
  intro pins s σ H x v Q I rx h
  obtain ⟨i, rfl, q⟩ := h
  obtain ⟨t, rfl⟩ := rx
  exact rule i t s _ _ ⟨.int (g i), H, I.tok _, ⟨_, rfl⟩, q⟩
theorem un_neg : UnR X (unaryOp .USub) (rU fun i => .int (-i)) := unI fun _ _ _ _ _ q => neg_int q
theorem un_inv : UnR X (unaryOp .Invert) (rU fun i => .int (Builtin.bitNot i)) := unI fun _ _ _ _ _ q => invert_int q
theorem op_add_ib : OpR X (binaryOp .Add) (fun x y H Q => ∃ i k, x = .int i ∧ y = .bl k ∧ Q (.int (i + b2i k)) H) := by
  intro pins s σ H x y v u Q I rx ry h
  obtain ⟨i, k, rfl, rfl, q⟩ := h
  obtain ⟨t, rfl⟩ := rx
  cases ry
  exact add_int_bool ⟨.int (i + b2i k), H, I.tok _, ⟨_, rfl⟩, q⟩
end
def scal : V → V → Bool
  | .non, .non => true | .non, .int _ => true | .int _, .non => true | .non, .bl _ => true | .bl _, .non => true | .non, .str _ => true | .str _, .non => true
  | .int _, .int _ => true | .bl _, .bl _ => true | .str _, .str _ => true | .byt _, .byt _ => true
  | .int _, .str _ => true | .str _, .int _ => true | .bl _, .str _ => true | .str _, .bl _ => true
  | _, _ => false
def rEq : R2 := fun x y H Q => scal x y = true ∧ Q (.bl (decide (x = y))) H
def rNe : R2 := fun x y H Q => scal x y = true ∧ Q (.bl (!decide (x = y))) H
theorem dec_int {i j : Int} : decide (V.int i = V.int j) = (i == j) := by
  rw [Bool.eq_iff_iff]
  simp
theorem dec_bl {i j : Bool} : decide (V.bl i = V.bl j) = (i == j) := by
  rw [Bool.eq_iff_iff]
  simp
theorem dec_str {i j : Str} : decide (V.str i = V.str j) = (i == j) := by
  rw [Bool.eq_iff_iff]
  simp
theorem dec_byt {i j : Array UInt8} : decide (V.byt i = V.byt j) = (i.toList == j.toList) := by
  rw [Bool.eq_iff_iff]
  cases i
  cases j
  simp
section
variable {X : Cx} {a b c : Expr} {ta tb tc : TE} {pos : Pos}
theorem fin_bl {pins : List (Addr × Obj)} {σ : St} {H : Hp} {s : Shared} {Q : VK} {k k' : Bool} (I : Inv X pins σ H s) (q : Q (.bl k) H) (e : k = k') : EP X pins σ Q (.bool k') s := by
  subst e
  exact ⟨.bl k, H, I, rfl, q⟩
theorem op_eq : OpR X (compareOp .Eq) rEq := by
  intro pins s σ H x y v u Q I rx ry h
  obtain ⟨hs, q⟩ := h
  cases x with
  | non =>
    cases rx
    cases y with
    | non => cases ry; exact PySem.EqNone.eq_none_none (fin_bl I q (by simp))
    | bl j => cases ry; exact PySem.EqNone.eq_none_bool (fin_bl I q (by simp))
    | int j => obtain ⟨t', rfl⟩ := ry; exact PySem.EqNone.eq_none_int (fin_bl I q (by simp))
    | str j => obtain ⟨t', rfl⟩ := ry; exact PySem.EqNone.eq_none_str (fin_bl I q (by simp))
    | _ => exact absurd (show false = true from hs) Bool.false_ne_true
  | bl i =>
    cases rx
    cases y with
    | non => cases ry; exact PySem.EqNone.eq_bool_none (fin_bl I q (by simp))
    | bl j => cases ry; exact eq_bool (fin_bl I q dec_bl)
    | str j => obtain ⟨t', rfl⟩ := ry; exact PySem.EqMixed.eq_bool_str (fin_bl I q (by simp))
    | _ => exact absurd (show false = true from hs) Bool.false_ne_true
  | int i =>
    obtain ⟨t, rfl⟩ := rx
    cases y with
    | non => cases ry; exact PySem.EqNone.eq_int_none (fin_bl I q (by simp))
    | int j => obtain ⟨t', rfl⟩ := ry; exact eq_int (fin_bl I q dec_int)
    | str j => obtain ⟨t', rfl⟩ := ry; exact PySem.EqMixed.eq_int_str (fin_bl I q (by simp))
    | _ => exact absurd (show false = true from hs) Bool.false_ne_true
  | str i =>
    obtain ⟨t, rfl⟩ := rx
    cases y with
    | non => cases ry; exact PySem.EqNone.eq_str_none (fin_bl I q (by simp))
    | bl j => cases ry; exact PySem.EqMixed.eq_str_bool (fin_bl I q (by simp))
    | int j => obtain ⟨t', rfl⟩ := ry; exact PySem.EqMixed.eq_str_int (fin_bl I q (by simp))
    | str j => obtain ⟨t', rfl⟩ := ry; exact eq_str (fin_bl I q dec_str)
    | _ => exact absurd (show false = true from hs) Bool.false_ne_true
  | byt i =>
    obtain ⟨t, rfl⟩ := rx
    cases y with
    | byt j => obtain ⟨t', rfl⟩ := ry; exact PySem.W.eq_bytes (fin_bl I q dec_byt)
    | _ => exact absurd (show false = true from hs) Bool.false_ne_true
  | _ => cases y <;> exact absurd (show false = true from hs) Bool.false_ne_true
theorem op_ne : OpR X (compareOp .NotEq) rNe := by
  intro pins s σ H x y v u Q I rx ry h
  obtain ⟨hs, q⟩ := h
  cases x with
  | non =>
    cases rx
    cases y with
    | non => cases ry; exact PySem.EqNone.ne_none_none (fin_bl I q (by simp))
    | bl j => cases ry; exact PySem.EqNone.ne_none_bool (fin_bl I q (by simp))
    | int j => obtain ⟨t', rfl⟩ := ry; exact PySem.EqNone.ne_none_int (fin_bl I q (by simp))
    | str j => obtain ⟨t', rfl⟩ := ry; exact PySem.EqNone.ne_none_str (fin_bl I q (by simp))
    | _ => exact absurd (show false = true from hs) Bool.false_ne_true
  | bl i =>
    cases rx
    cases y with
    | non => cases ry; exact PySem.EqNone.ne_bool_none (fin_bl I q (by simp))
    | bl j => cases ry; exact ne_bool (fin_bl I q (congrArg not dec_bl))
    | str j => obtain ⟨t', rfl⟩ := ry; exact PySem.EqMixed.ne_bool_str (fin_bl I q (by simp))
    | _ => exact absurd (show false = true from hs) Bool.false_ne_true
  | int i =>
    obtain ⟨t, rfl⟩ := rx
    cases y with
    | non => cases ry; exact PySem.EqNone.ne_int_none (fin_bl I q (by simp))
    | int j => obtain ⟨t', rfl⟩ := ry; exact ne_int (fin_bl I q (congrArg not dec_int))
    | str j => obtain ⟨t', rfl⟩ := ry; exact PySem.EqMixed.ne_int_str (fin_bl I q (by simp))
    | _ => exact absurd (show false = true from hs) Bool.false_ne_true
  | str i =>
    obtain ⟨t, rfl⟩ := rx
    cases y with
    | non => cases ry; exact PySem.EqNone.ne_str_none (fin_bl I q (by simp))
    | bl j => cases ry; exact PySem.EqMixed.ne_str_bool (fin_bl I q (by simp))
    | int j => obtain ⟨t', rfl⟩ := ry; exact PySem.EqMixed.ne_str_int (fin_bl I q (by simp))
    | str j => obtain ⟨t', rfl⟩ := ry; exact ne_str (fin_bl I q (congrArg not dec_str))
    | _ => exact absurd (show false = true from hs) Bool.false_ne_true
  | byt i =>
    obtain ⟨t, rfl⟩ := rx
    cases y with
    | byt j => obtain ⟨t', rfl⟩ := ry; exact PySem.W.ne_bytes (fin_bl I q (congrArg not dec_byt))
    | _ => exact absurd (show false = true from hs) Bool.false_ne_true
  | _ => cases y <;> exact absurd (show false = true from hs) Bool.false_ne_true
theorem op_lt : OpR X (compareOp .Lt) (rI0 fun i j => .bl (decide (i < j))) := opB0 fun _ _ _ _ _ _ _ q => lt_int q
theorem op_le : OpR X (compareOp .LtE) (rI0 fun i j => .bl (decide (i ≤ j))) := opB0 fun _ _ _ _ _ _ _ q => le_int q
theorem op_gt : OpR X (compareOp .Gt) (rI0 fun i j => .bl (decide (j < i))) := opB0 fun _ _ _ _ _ _ _ q => gt_int q
theorem op_ge : OpR X (compareOp .GtE) (rI0 fun i j => .bl (decide (j ≤ i))) := opB0 fun _ _ _ _ _ _ _ q => ge_int q
theorem op_lt_str : OpR X (compareOp .Lt) (fun x y H Q => ∃ i j, x = .str i ∧ y = .str j ∧ Q (.bl (decide (i.cps.toList < j.cps.toList))) H) := by
  intro pins s σ H x y v u Q I rx ry h
  obtain ⟨i, j, rfl, rfl, q⟩ := h
  obtain ⟨t, rfl⟩ := rx
  obtain ⟨t', rfl⟩ := ry
  exact lt_str (fin_bl I q rfl)
theorem op_in_str : OpR X (compareOp .In) (fun x y H Q => ∃ i j, x = .str i ∧ y = .str j ∧ Q (.bl (!(Builtin.Str.occurrences j i 0 j.length 1).isEmpty)) H) := by
  intro pins s σ H x y v u Q I rx ry h
  obtain ⟨i, j, rfl, rfl, q⟩ := h
  obtain ⟨t, rfl⟩ := rx
  obtain ⟨t', rfl⟩ := ry
  exact in_str (fin_bl I q rfl)
theorem op_isN : OpR X (compareOp .Is) (fun x y H Q => y = .non ∧ Q (.bl (decide (x = .non))) H) := by
  intro pins s σ H x y v u Q I rx ry h
  obtain ⟨rfl, q⟩ := h
  cases ry
  refine is_none_gen (fin_bl I q ?_)
  cases x <;> first
    | (cases rx; rfl)
    | (obtain ⟨t, rfl⟩ := rx; rfl)
theorem op_notN : OpR X (compareOp .IsNot) (fun x y H Q => y = .non ∧ Q (.bl (!decide (x = .non))) H) := by
  intro pins s σ H x y v u Q I rx ry h
  obtain ⟨rfl, q⟩ := h
  cases ry
  refine isnot_none_gen (fin_bl I q ?_)
  cases x <;> first
    | (cases rx; rfl)
    | (obtain ⟨t, rfl⟩ := rx; rfl)
theorem op_notin_str : OpR X (compareOp .NotIn) (fun x y H Q => ∃ i j, x = .str i ∧ y = .str j ∧ Q (.bl (!(!(Builtin.Str.occurrences j i 0 j.length 1).isEmpty))) H) := by
  intro pins s σ H x y v u Q I rx ry h
  obtain ⟨i, j, rfl, rfl, q⟩ := h
  obtain ⟨t, rfl⟩ := rx
  obtain ⟨t', rfl⟩ := ry
  exact notIn_str (fin_bl I q rfl)
def isObj : HO → Bool
  | .lst _ => true
  | .ins _ _ _ => true
  | _ => false
theorem obj_there {pins : List (Addr × Obj)} {s : Shared} {σ : St} {H : Hp} {a : Addr} {o : HO} (I : Inv X pins σ H s) (h : H a = some o) (p : isObj o = true) : ∃ ob, s.heap.get? a = some ob ∧ ob.cls ≠ .type "tuple" := by
  cases o with
  | lst xs =>
    obtain ⟨_, its, n, _, e⟩ : xs.length ≤ sizeLine ∧ ∃ (its : List Value) (n : Nat), Vals xs its ∧ s.heap.get? a = some { cls := .type "list", data := .seq its.toArray n } := I.hok a _ h
    exact ⟨_, e, (by show Value.type "list" ≠ .type "tuple"; decide +kernel)⟩
  | ins C dx fs =>
    have x := I.hok a _ h
    obtain ⟨_, _, _, e, _⟩ := x
    exact ⟨_, e, (by show Value.ref C ≠ .type "tuple"; exact fun z => by cases z)⟩
  | _ => exact absurd (show false = true from p) Bool.false_ne_true
theorem op_is_ref : OpR X (compareOp .Is) (fun x y H Q => ∃ a b oa ob, x = .ref a ∧ y = .ref b ∧ H a = some oa ∧ isObj oa = true ∧ H b = some ob ∧ isObj ob = true ∧ Q (.bl (decide (a = b))) H) := by
  intro pins s σ H x y v u Q I rx ry h
  obtain ⟨a, b, oa, ob, rfl, rfl, ha, pa, hb, pb, q⟩ := h
  cases rx
  cases ry
  obtain ⟨o1, e1, n1⟩ := obj_there I ha pa
  obtain ⟨o2, e2, _⟩ := obj_there I hb pb
  by_cases z : a = b
  · subst z
    exact wpAny_is_ref_self (fin_bl I q (by simp))
  · exact wpAny_is_ref_other z e1 e2 n1 (fin_bl I q (by simp [z]))
theorem op_isnot_ref : OpR X (compareOp .IsNot) (fun x y H Q => ∃ a b oa ob, x = .ref a ∧ y = .ref b ∧ H a = some oa ∧ isObj oa = true ∧ H b = some ob ∧ isObj ob = true ∧ Q (.bl (!decide (a = b))) H) := by
  intro pins s σ H x y v u Q I rx ry h
  obtain ⟨a, b, oa, ob, rfl, rfl, ha, pa, hb, pb, q⟩ := h
  cases rx
  cases ry
  obtain ⟨o1, e1, n1⟩ := obj_there I ha pa
  obtain ⟨o2, e2, _⟩ := obj_there I hb pb
  by_cases z : a = b
  · subst z
    exact wpAny_isNot_ref_self (fin_bl I q (by simp))
  · exact wpAny_isNot_ref_other z e1 e2 n1 (fin_bl I q (by simp [z]))
theorem OpR.or {f : Value → Value → Sem Value} {r r' : R2} (h : OpR X f r) (h' : OpR X f r') : OpR X f (fun x y H Q => r x y H Q ∨ r' x y H Q) := by
  intro pins s σ H x y v u Q I rx ry q
  rcases q with q | q
  · exact h pins s σ H x y v u Q I rx ry q
  · exact h' pins s σ H x y v u Q I rx ry q
theorem nomark (b : Expr) {op : CmpOp} (h : op ≠ .In := by decide) (h2 : op ≠ .NotIn := by decide) : behindInMarks op b = false := by
  have e1 : (op == CmpOp.In) = false := by cases op <;> first | rfl | exact absurd rfl h
  have e2 : (op == CmpOp.NotIn) = false := by cases op <;> first | rfl | exact absurd rfl h2
  cases b <;> simp [behindInMarks, e1, e2]
theorem pe_cmpR {op : CmpOp} {r : R2} (ho : OpR X (compareOp op) r) (ha : PE X a ta) (hb : PE X b tb) (hm : behindInMarks op b = false) : PE X (.Compare a [op] [b] pos) (tOp r ta tb) := by
  intro pins s σ H Q I h
  exact wpAny_Compare1 (binT ha hb I h fun v u s2 x y H2 I2 rx ry q => ho pins s2 σ H2 x y v u Q I2 rx ry q) hm
def tTest (t : TE) : TT := fun σ H Q => t σ H fun x H' => ∃ k, x = .bl k ∧ Q k H'
theorem pt_cmpR {op : CmpOp} {r : R2} (ho : OpR X (compareOp op) r) (ha : PE X a ta) (hb : PE X b tb) (hm : behindInMarks op b = false) : PT X (.Compare a [op] [b] pos) (tTest (tOp r ta tb)) := by
  intro pins s σ H Q I h
  refine wpAny_isTrue_Compare1 (thn (ha pins s σ H _ I h) fun v s1 ⟨x, H1, I1, r1, q1⟩ => thn (hb pins s1 σ H1 _ I1 q1) fun u s2 ⟨y, H2, I2, r2, q2⟩ =>
    thn (ho pins s2 σ H2 x y v u _ I2 r1 r2 q2) fun c s3 ⟨z, H3, I3, r3, k, e, q3⟩ => ?_) hm
  subst e
  cases r3
  exact wpAny_truthy_bool ⟨H3, I3, q3⟩
def tChain (r r' : R2) (ta tb tc : TE) : TE := fun σ H Q => ta σ H fun x H1 => tb σ H1 fun y H2 => r x y H2 fun z H3 => ∃ k, z = .bl k ∧
  (if k = true then tc σ H3 fun w' H4 => r' y w' H4 Q else Q (.bl false) H3)
theorem pe_chain {op op' : CmpOp} {r r' : R2} (ho : OpR X (compareOp op) r) (ho' : OpR X (compareOp op') r') (ha : PE X a ta) (hb : PE X b tb) (hc : PE X c tc)
    (hm : lastMarks [op, op'] [b, c] = false := by with_unfolding_all rfl) : PE X (.Compare a [op, op'] [b, c] pos) (tChain r r' ta tb tc) := by
  intro pins s σ H Q I h
  refine Compare_chain (thn (ha pins s σ H _ I h) fun v s1 ⟨x, H1, I1, r1, q1⟩ => chain_link (thn (hb pins s1 σ H1 _ I1 q1) fun u s2 ⟨y, H2, I2, r2, q2⟩ =>
    thn (ho pins s2 σ H2 x y v u _ I2 r1 r2 q2) fun d s3 ⟨z, H3, I3, r3, k, e, q3⟩ => ?_)) hm
  subst e
  cases r3
  refine wpAny_truthy_bool ?_
  cases k with
  | false => exact ite_ff ⟨.bl false, H3, I3, rfl, q3⟩
  | true => exact ite_tt (chain_last (thn (hc pins s3 σ H3 _ I3 q3) fun w' s4 ⟨z', H4, I4, r4, q4⟩ => ho' pins s4 σ H4 y z' u w' Q I4 r2 r4 q4))
theorem pt_chain {op op' : CmpOp} {r r' : R2} (ho : OpR X (compareOp op) r) (ho' : OpR X (compareOp op') r') (ha : PE X a ta) (hb : PE X b tb) (hc : PE X c tc)
    (hm : lastMarks [op, op'] [b, c] = false := by with_unfolding_all rfl) : PT X (.Compare a [op, op'] [b, c] pos) (tTest (tChain r r' ta tb tc)) := by
  intro pins s σ H Q I h
  refine isTrue_chain (thn (ha pins s σ H _ I h) fun v s1 ⟨x, H1, I1, r1, q1⟩ => test_link (thn (hb pins s1 σ H1 _ I1 q1) fun u s2 ⟨y, H2, I2, r2, q2⟩ =>
    thn (ho pins s2 σ H2 x y v u _ I2 r1 r2 q2) fun d s3 ⟨z, H3, I3, r3, k, e, q3⟩ => ?_)) hm
  subst e
  cases r3
  refine wpAny_truthy_bool ?_
  cases k with
  | false =>
    obtain ⟨k', e', q'⟩ := q3
    cases e'
    exact ite_ff ⟨H3, I3, q'⟩
  | true =>
    refine ite_tt (test_last (thn (hc pins s3 σ H3 _ I3 q3) fun w' s4 ⟨z', H4, I4, r4, q4⟩ => thn (ho' pins s4 σ H4 y z' u w' _ I4 r2 r4 q4) fun d' s5 ⟨z2, H5, I5, r5, k2, e2, q5⟩ => ?_))
    subst e2
    cases r5
    exact wpAny_truthy_bool ⟨H5, I5, q5⟩
def TruV (K : PySem.W.Frag) (x : V) (H : Hp) (k : Bool) : Prop :=
  match x with
  | .non => k = false
  | .bl b => k = b
  | .int i => k = (i != 0)
  | .str y => y.length ≤ sizeLine ∧ k = ((y.length : Int) != 0)
  | .byt y => y.size ≤ sizeLine ∧ k = ((y.size : Int) != 0)
  | .ref p => (∃ xs, SqL K H p xs ∧ k = !xs.isEmpty) ∨ (∃ xs, SqT K H p xs ∧ k = !xs.isEmpty) ∨ ∃ kvs, H p = some (.dK kvs) ∧ k = !kvs.isEmpty
  | _ => False
theorem isEmpty_kv {κ : Type} {kvs : List (κ × V)} {vs : List (κ × Value)} (r : KV kvs vs) : (!vs.isEmpty) = !kvs.isEmpty := by
  cases r <;> rfl
theorem isEmpty_of {xs : List V} {its : List Value} (r : Vals xs its) : (!its.toArray.isEmpty) = !xs.isEmpty := by
  cases r <;> simp
theorem line63 : (sizeLine : Nat) < 2 ^ 63 := by rw [sizeLine_eq]; decide
theorem tru_ok : TruR X (fun x H Q => ∃ k, TruV X.K x H k ∧ Q k H) := by
  intro pins s σ H x v Q I rx h
  obtain ⟨k, e, q⟩ := h
  have hl := line63
  have hs : sizeLine = 16777216 := sizeLine_eq
  cases x with
  | non =>
    cases rx
    have e' : k = false := e
    subst e'
    exact truthy_none ⟨H, I, q⟩
  | bl b =>
    cases rx
    have e' : k = b := e
    subst e'
    exact wpAny_truthy_bool ⟨H, I, q⟩
  | int i =>
    obtain ⟨t, rfl⟩ := rx
    have e' : k = (i != 0) := e
    subst e'
    exact PySem.P.truthy_int ⟨H, I, q⟩
  | str y =>
    obtain ⟨t, rfl⟩ := rx
    obtain ⟨hy, e'⟩ : y.length ≤ sizeLine ∧ k = ((y.length : Int) != 0) := e
    subst e'
    exact PySem.P.truthy_str (by omega) ⟨H, I.tok _, q⟩
  | byt y =>
    obtain ⟨t, rfl⟩ := rx
    obtain ⟨hy, e'⟩ : y.size ≤ sizeLine ∧ k = ((y.size : Int) != 0) := e
    subst e'
    exact PySem.W.truthy_bytes (by omega) ⟨H, I.tok _, q⟩
  | ref p =>
    cases rx
    have e' : (∃ xs, SqL X.K H p xs ∧ k = !xs.isEmpty) ∨ (∃ xs, SqT X.K H p xs ∧ k = !xs.isEmpty) ∨ ∃ kvs, H p = some (.dK kvs) ∧ k = !kvs.isEmpty := e
    rcases e' with ⟨xs, hx, e'⟩ | ⟨xs, hx, e'⟩ | ⟨kvs, hx, e'⟩
    · subst e'
      obtain ⟨its, r, pl, hz⟩ := I.list hx
      have hlen := r.length
      exact wpAny_truthy_list pl.isList (by simp only [List.size_toArray]; omega) ⟨H, I.tok _, by rw [isEmpty_of r]; exact q⟩
    · subst e'
      obtain ⟨its, r, pl, hz⟩ := I.tuple hx
      have hlen := r.length
      exact truthy_tuple pl (by simp only [List.size_toArray]; omega) ⟨H, I.tok _, by rw [isEmpty_of r]; exact q⟩
    · subst e'
      obtain ⟨hz, hS, vs, r, m⟩ : kvs.length ≤ sizeLine ∧ (p == sysModules) = false ∧ ∃ vs, KV kvs vs ∧ s.heap.DictOf (mixKind X.prog X.w) p vs := I.hok p _ hx
      have hlen : kvs.length = vs.length := Paired.length r
      exact wpAny_truthy_dict hS m (by omega) ⟨H, I.tok _, by rw [isEmpty_kv r]; exact q⟩
  | _ => exact (show False from e).elim
theorem pt_truth (ha : PE X a ta) (he : ∀ whole, isTrue a X.env whole = (do let v ← whole; standAt a.pos; holding [v] (truthy v))) :
    PT X a (fun σ H Q => ta σ H fun x H' => ∃ k, TruV X.K x H' k ∧ Q k H') := by
  intro pins s σ H Q I h
  exact isTrue_plain (thn (ha pins s σ H _ I h) fun v s1 ⟨x, H1, I1, r1, q1⟩ => tru_ok pins s1 σ H1 x v Q I1 r1 q1) (he _)
theorem pe_byt {x : List UInt8} {k : Nat} : PE X (.Constant (.bytes x) k pos) (fun _ H Q => Q (.byt x.toArray) H) := fun _ _ _ H _ I h => PySem.W.Constant_bytes ⟨.byt x.toArray, H, I.tok _, ⟨_, rfl⟩, h⟩
theorem op_add_str : OpR X (binaryOp .Add) (fun x y H Q => ∃ i j, x = .str i ∧ y = .str j ∧ i.length + j.length ≤ sizeLine ∧ Q (.str (i ++ j)) H) := by
  intro pins s σ H x y v u Q I rx ry h
  obtain ⟨i, j, rfl, rfl, hz, q⟩ := h
  obtain ⟨t, rfl⟩ := rx
  obtain ⟨t', rfl⟩ := ry
  exact add_str (fun t' tk => ⟨.str (i ++ j), H, I.tok _, ⟨_, rfl⟩, q⟩) hz
theorem iop_add_str : OpR X (inplaceOp .Add) (fun x y H Q => ∃ i j, x = .str i ∧ y = .str j ∧ i.length + j.length ≤ sizeLine ∧ Q (.str (i ++ j)) H) := by
  intro pins s σ H x y v u Q I rx ry h
  obtain ⟨i, j, rfl, rfl, hz, q⟩ := h
  obtain ⟨t, rfl⟩ := rx
  obtain ⟨t', rfl⟩ := ry
  exact iadd_str (fun t' tk => ⟨.str (i ++ j), H, I.tok _, ⟨_, rfl⟩, q⟩) hz
theorem op_add_byt : OpR X (binaryOp .Add) (fun x y H Q => ∃ i j, x = .byt i ∧ y = .byt j ∧ i.size + j.size ≤ 16777216 ∧ Q (.byt (i ++ j)) H) := by
  intro pins s σ H x y v u Q I rx ry h
  obtain ⟨i, j, rfl, rfl, hz, q⟩ := h
  obtain ⟨t, rfl⟩ := rx
  obtain ⟨t', rfl⟩ := ry
  exact PySem.W.KBy.add_bytes hz (fun t' tk => ⟨.byt (i ++ j), H, I.tok _, ⟨_, rfl⟩, q⟩)
def PlainIxT (b : Expr) : Prop := ∀ o i, subscripted b false o i = operate [o, i] (getItem o i)
theorem pe_item_str (ha : PE X a ta) (hb : PE X b tb) (hs : PlainIxT b) :
    PE X (.Subscript a b pos) (tOp (fun x y H Q => ∃ z i c, x = .str z ∧ y = .int i ∧ 0 ≤ i ∧ i < 2 ^ 63 ∧ i < z.length ∧ z.cps[i.toNat]? = some c ∧ Q (.str ⟨#[c]⟩) H) ta tb) := by
  intro pins s σ H Q I h
  refine Subscript_ (binT ha hb I h fun v u s2 x y H2 I2 rx ry q => ?_)
  obtain ⟨z, i, c, rfl, rfl, h0, h63, h1, hc, q⟩ := q
  obtain ⟨t, rfl⟩ := rx
  obtain ⟨t', rfl⟩ := ry
  have e : seqIndex? i z.length = some i.toNat := PySem.StrLaws.seqIndex_nonneg h0 h1
  exact tail_any (typeIs_str s2 z t) slot_str_getitem.lookup (getItem_str (c := c) (by
    have e1 : decide (i < -(2 ^ 63 : Int)) = false := decide_eq_false (by omega)
    have e2 : decide (i ≥ 2 ^ 63) = false := decide_eq_false (by omega)
    rw [e1, e2] <;> rfl) (by rw [e]; exact hc) ⟨.str ⟨#[c]⟩, H2, I2.tok _, ⟨_, rfl⟩, q⟩) (hs _ _)
theorem pe_item_byt (ha : PE X a ta) (hb : PE X b tb) (hs : PlainIxT b) :
    PE X (.Subscript a b pos) (tOp (fun x y H Q => ∃ (z : List UInt8) (i : Int), x = .byt z.toArray ∧ y = .int i ∧ z.length ≤ sizeLine ∧ 0 ≤ i ∧ i < z.length ∧ Q (.int ((z.getD i.toNat 0).toNat : Nat)) H) ta tb) := by
  intro pins s σ H Q I h
  refine Subscript_ (binT ha hb I h fun v u s2 x y H2 I2 rx ry q => ?_)
  obtain ⟨z, i, rfl, rfl, hz, h0, h1, q⟩ := q
  obtain ⟨t, rfl⟩ := rx
  obtain ⟨t', rfl⟩ := ry
  have hl : sizeLine = 16777216 := sizeLine_eq
  exact tail_any (PySem.W.typeIs_bytes s2 z.toArray t) PySem.W.FB.slot_bytes_getitem.lookup (PySem.W.getItem_bytes (by omega) h0 h1 ⟨.int ((z.getD i.toNat 0).toNat : Nat), H2, I2.tok _, ⟨_, rfl⟩, q⟩) (hs _ _)
theorem vals1 {x : V} {us : List Value} (r : Vals [x] us) : ∃ u, us = [u] ∧ RelV x u := by
  cases r with
  | cons r1 r2 => cases r2; exact ⟨_, rfl, r1⟩
theorem vals2 {x y : V} {us : List Value} (r : Vals [x, y] us) : ∃ u w', us = [u, w'] ∧ RelV x u ∧ RelV y w' := by
  cases r with
  | cons r1 r2 =>
    cases r2 with
    | cons r3 r4 => cases r4; exact ⟨_, _, rfl, r1, r3⟩
theorem call_abs : CallR X (.builtin "abs") (fun xs H Q => ∃ i, xs = [.int i] ∧ Q (.int (if i < 0 then -i else i)) H) := by
  intro pins s σ H xs us Q I r h
  obtain ⟨i, rfl, q⟩ := h
  obtain ⟨u, rfl, t, rfl⟩ := vals1 r
  exact call_abs_int fun u tk => ⟨.int (if i < 0 then -i else i), H, I.tok _, ⟨_, rfl⟩, q⟩
theorem call_max2 (hc : X.calm = true) : CallR X (.builtin "max") (fun xs H Q => ∃ i j, xs = [.int i, .int j] ∧ Q (.int (if j > i then j else i)) H) := by
  intro pins s σ H xs us Q I r h
  obtain ⟨i, j, rfl, q⟩ := h
  obtain ⟨u, w', rfl, ⟨t, rfl⟩, ⟨t', rfl⟩⟩ := vals2 r
  refine max_two_ints (I.ok.hd hc) fun h' tk k => ⟨_, H, I.kept k, ?_, q⟩
  by_cases hj : j > i
  · rw [if_pos hj, if_pos hj]; exact ⟨_, rfl⟩
  · rw [if_neg hj, if_neg hj]; exact ⟨_, rfl⟩
theorem call_min2 (hc : X.calm = true) : CallR X (.builtin "min") (fun xs H Q => ∃ i j, xs = [.int i, .int j] ∧ Q (.int (if j < i then j else i)) H) := by
  intro pins s σ H xs us Q I r h
  obtain ⟨i, j, rfl, q⟩ := h
  obtain ⟨u, w', rfl, ⟨t, rfl⟩, ⟨t', rfl⟩⟩ := vals2 r
  refine min_two_ints (I.ok.hd hc) fun h' tk k => ⟨_, H, I.kept k, ?_, q⟩
  by_cases hj : j < i
  · rw [if_pos hj, if_pos hj]; exact ⟨_, rfl⟩
  · rw [if_neg hj, if_neg hj]; exact ⟨_, rfl⟩
theorem call_int1 : CallR X (.type "int") (fun xs H Q => (∃ i, xs = [.int i] ∧ Q (.int i) H) ∨ ∃ k, xs = [.bl k] ∧ Q (.int (if k then 1 else 0)) H) := by
  intro pins s σ H xs us Q I r h
  rcases h with ⟨i, rfl, q⟩ | ⟨k, rfl, q⟩
  · obtain ⟨u, rfl, t, rfl⟩ := vals1 r
    exact call_int_int ⟨.int i, H, I, ⟨_, rfl⟩, q⟩
  · obtain ⟨u, rfl, r1⟩ := vals1 r
    cases r1
    exact call_int_bool ⟨.int (if k then 1 else 0), H, I.tok _, ⟨_, rfl⟩, q⟩
theorem call_bool1 : CallR X (.type "bool") (fun xs H Q => (∃ i, xs = [.int i] ∧ Q (.bl (i != 0)) H) ∨ ∃ k, xs = [.bl k] ∧ Q (.bl k) H) := by
  intro pins s σ H xs us Q I r h
  rcases h with ⟨i, rfl, q⟩ | ⟨k, rfl, q⟩
  · obtain ⟨u, rfl, t, rfl⟩ := vals1 r
    exact call_bool_int ⟨.bl (i != 0), H, I, rfl, q⟩
  · obtain ⟨u, rfl, r1⟩ := vals1 r
    cases r1
    exact call_bool_bool ⟨.bl k, H, I, rfl, q⟩
theorem call_str_int : CallR X (.type "str") (fun xs H Q => ∃ i, xs = [.int i] ∧ i.natAbs.log2 < 1920 ∧ Q (.str (toString i)) H) := by
  intro pins s σ H xs us Q I r h
  obtain ⟨i, rfl, hz, q⟩ := h
  obtain ⟨u, rfl, t, rfl⟩ := vals1 r
  exact PySem.P.str_of_int hz ⟨.str _, H, I.tok _, ⟨_, rfl⟩, q⟩
theorem call_ord : CallR X (.builtin "ord") (fun xs H Q => ∃ x, xs = [.str x] ∧ x.length = 1 ∧ Q (.int (x.cps.getD 0 0 : Nat)) H) := by
  intro pins s σ H xs us Q I r h
  obtain ⟨x, rfl, hz, q⟩ := h
  obtain ⟨u, rfl, t, rfl⟩ := vals1 r
  exact ord_of_one hz ⟨.int _, H, I.tok _, ⟨_, rfl⟩, q⟩
theorem call_chr : CallR X (.builtin "chr") (fun xs H Q => ∃ i, xs = [.int i] ∧ 0 ≤ i ∧ i ≤ 1114111 ∧ Q (.str ⟨#[i.toNat]⟩) H) := by
  intro pins s σ H xs us Q I r h
  obtain ⟨i, rfl, h0, h1, q⟩ := h
  obtain ⟨u, rfl, t, rfl⟩ := vals1 r
  exact chr_of_range h0 h1 ⟨.str _, H, I.tok _, ⟨_, rfl⟩, q⟩
def LenV (K : PySem.W.Frag) (x : V) (H : Hp) (n : Nat) : Prop :=
  match x with
  | .str y => y.length ≤ sizeLine ∧ n = y.length
  | .byt y => y.size ≤ sizeLine ∧ n = y.size
  | .ref p => (∃ xs, SqL K H p xs ∧ n = xs.length) ∨ ∃ xs, SqT K H p xs ∧ n = xs.length
  | _ => False
theorem call_len : CallR X (.builtin "len") (fun xs H Q => ∃ x n, xs = [x] ∧ LenV X.K x H n ∧ Q (.int n) H) := by
  intro pins s σ H xs us Q I r h
  obtain ⟨x, n, rfl, e, q⟩ := h
  obtain ⟨u, rfl, rx⟩ := vals1 r
  have hl := line63
  have hs : sizeLine = 16777216 := sizeLine_eq
  cases x with
  | str y =>
    obtain ⟨t, rfl⟩ := rx
    obtain ⟨hy, e'⟩ : y.length ≤ sizeLine ∧ n = y.length := e
    subst e'
    exact len_str (by omega) ⟨.int _, H, I.tok _, ⟨_, rfl⟩, q⟩
  | byt y =>
    obtain ⟨t, rfl⟩ := rx
    obtain ⟨hy, e'⟩ : y.size ≤ sizeLine ∧ n = y.size := e
    subst e'
    exact PySem.W.len_bytes (by omega) ⟨.int _, H, I.tok _, ⟨_, rfl⟩, q⟩
  | ref p =>
    cases rx
    have e' : (∃ xs, SqL X.K H p xs ∧ n = xs.length) ∨ ∃ xs, SqT X.K H p xs ∧ n = xs.length := e
    rcases e' with ⟨xs, hx, e'⟩ | ⟨xs, hx, e'⟩
    · subst e'
      obtain ⟨its, r', pl, hz⟩ := I.list hx
      have hlen := r'.length
      exact Calls.call_len_list pl.isList (by simp only [List.size_toArray]; omega) ⟨.int xs.length, H, I.tok _, ⟨_, by simp only [List.size_toArray]; rw [hlen]⟩, q⟩
    · subst e'
      obtain ⟨its, r', pl, hz⟩ := I.tuple hx
      have hlen := r'.length
      exact len_tuple pl (by simp only [List.size_toArray]; omega) ⟨.int xs.length, H, I.tok _, ⟨_, by simp only [List.size_toArray]; rw [hlen]⟩, q⟩
  | _ => exact (show False from e).elim
theorem call_divmod : CallR X (.builtin "divmod") (fun xs H Q => ∃ i j, xs = [.int i, .int j] ∧ CDiv i j ∧ ∀ p, H p = none → Q (.ref p) (upd H p (.tup [.int (i / j), .int (i % j)]))) := by
  intro pins s σ H xs us Q I r h
  obtain ⟨i, j, rfl, ⟨h1, h2⟩, q⟩ := h
  obtain ⟨u, w', rfl, ⟨t, rfl⟩, ⟨t', rfl⟩⟩ := vals2 r
  refine divmod_int (by omega) ?_ (.inl (PyProof.noPylong_small (by omega)))
  rw [Int.fdiv_eq_ediv_of_nonneg i (by omega), Int.fmod_eq_emod_of_nonneg i (by omega)]
  have hn : H s.heap.objs.size = none := I.hok.fresh (Nat.le_refl _)
  refine ⟨.ref s.heap.objs.size, _, ?_, rfl, q _ hn⟩
  refine I.laid (fun b o e => Heap.get?_push_of_some _ e) (Nat.le_refl _) ⟨by simp only [List.length_cons, List.length_nil]; rw [sizeLine_eq]; decide, [.int (i / j) s.toks, .int (i % j) (s.toks + 1)], .cons ⟨_, rfl⟩ (.cons ⟨_, rfl⟩ .nil), ?_⟩
  exact ⟨_, Heap.get?_push_size s.heap rfl, rfl, rfl, 0, rfl⟩
end
end L2
namespace L2
open PySem PySem.Spec PyProof.Rows
structure ObjM (h : Heap) (x dx C : Addr) (mA : Str → Option Value) : Prop where
  obj : h.get? x = some (PySem.W.instObj C dx)
  ns : h.Ns1 dx mA
  ne : dx ≠ x
theorem lookIn_ns {h : Heap} {dx : Addr} {mA : Str → Option Value} (n : h.Ns1 dx mA) : ∃ od, h.get? dx = some od ∧ ∀ name, PySem.W.lookIn name od = some (mA name) := by
  obtain ⟨o, es, ep, ho, hd, hk, _, hm⟩ := n
  refine ⟨o, ho, fun name => ?_⟩
  have e := hm name
  unfold nsFind findBy at e
  rw [← Array.find?_toList] at e
  unfold PySem.W.lookIn
  rw [hd]
  dsimp only
  split
  · rename_i y q
    rw [q] at e
    exact congrArg some e
  · rename_i q
    rw [q] at e
    have a : es.toList.any (·.refKey) = false := by
      rw [List.any_eq_false]
      intro y hy
      obtain ⟨z, t, hkey⟩ := hk y (Array.mem_toList_iff.mp hy)
      simp [DictEntry.refKey, hkey]
    have a' : ¬ es.toList.any (·.refKey) = true := by rw [a]; exact Bool.false_ne_true
    rw [if_neg a']
    exact congrArg some e
theorem ObjM.look {h : Heap} {x dx C : Addr} {mA : Str → Option Value} (I : ObjM h x dx C mA) : ∃ od, PySem.W.InstAt h x (PySem.W.instObj C dx) C (some od) ∧ ∀ name, PySem.W.lookIn name od = some (mA name) :=
  let ⟨od, ho, hl⟩ := lookIn_ns I.ns
  ⟨od, ⟨I.obj, rfl, rfl, ho⟩, hl⟩
section
variable {prog : Program} {w : World} {A : Around} {E : Value → Shared → Prop} {s : Shared} {K : PySem.W.Frag} {x dx C f : Addr} {mA : Str → Option Value} {name : Str} {v : Value}
theorem get_map {expr : Bool} {Q : Value → Shared → Prop} (X : K.In s.heap) (I : ObjM s.heap x dx C mA) (hg : PySem.W.plainGet K C name = true) (hh : PySem.W.hasDictIn K C = true)
    (ha : PySem.W.findIn K (.ref C) name = some none) (hv : mA name = some v) (hv' : PySem.W.handedIn v = true) (h : Q v { s with toks := s.toks + 1 }) :
    wpAny (model prog w) A (getAttr (.ref x) name expr) Q E s := by
  obtain ⟨od, J, hl⟩ := I.look
  exact PySem.W.get_value X J (PySem.W.plainGet_of hg).1 (PySem.W.findObj_own hh ha rfl (by rw [hl, hv])) hv' h
theorem get_const {expr : Bool} {a : Value} {Q : Value → Shared → Prop} (X : K.In s.heap) (I : ObjM s.heap x dx C mA) (hg : PySem.W.plainGet K C name = true) (hh : PySem.W.hasDictIn K C = true)
    (ha : PySem.W.findIn K (.ref C) name = some (some a)) (hn : PySem.W.specialIn K a "__get__" = some none) (hc : PySem.W.copiedNames.contains name = false) (hv : mA name = none) (hv' : PySem.W.handedIn a = true)
    (h : Q a { s with toks := s.toks + 1 }) : wpAny (model prog w) A (getAttr (.ref x) name expr) Q E s := by
  obtain ⟨od, J, hl⟩ := I.look
  exact PySem.W.get_value X J (PySem.W.plainGet_of hg).1 (PySem.W.findObj_cls hh ha hn hv' hc (by rw [hl, hv])) hv' h
theorem get_meth {pl : Sem Bool} {Q : Value × List Value → Shared → Prop} (X : K.In s.heap) (I : ObjM s.heap x dx C mA) (hg : PySem.W.plainGet K C name = true)
    (hf : PySem.W.findIn K (.ref C) name = some (some (.ref f))) (ht : PySem.W.isFn K (.ref f) = true) (hv : mA name = none) (h : Q (.ref f, [.ref x]) s) :
    wpAny (model prog w) A (getMethod (.ref x) name pl) Q E s := by
  obtain ⟨od, J, hl⟩ := I.look
  exact PySem.W.method_fn X J (PySem.W.plainGet_of hg).1 (PySem.W.plainGet_of hg).2 hf (beq_iff_eq.mp ht) (by show (PySem.W.lookIn name od).map (·.isSome) = some false; rw [hl, hv]; rfl) h
theorem set_map {ns : List Str} {Q : Unit → Shared → Prop} (X : K.In s.heap) (I : ObjM s.heap x dx C mA)
    (hs : PySem.W.findIn K (.ref C) "__setattr__" = some (some (.builtin "object.__setattr__"))) (hp : PySem.W.plainOver K C = true) (ht : PySem.W.takerIn K C name = some none) (hh : PySem.W.hasDictIn K C = true)
    (hw : PySem.Within mA ns) (hsz : ns.length ≤ sizeLine)
    (h : ∀ h', ObjM h' x dx C (fun y => if y = name then some v else mA y) → Heap.SameBut dx s.heap h' → Q () { s with heap := h', toks := s.toks + 2 }) :
    wpAny (model prog w) A (setAttr (.ref x) name v) Q E s := by
  obtain ⟨od, J, hl⟩ := I.look
  refine PySem.W.set_plain X J hs (PySem.W.osa_open (s := { s with toks := s.toks + 1 }) (r := none) X J hp ht fun b => ?_)
  obtain ⟨cd, hc, hd'⟩ := PySem.W.any_some hh
  have hx : s.heap.get? x = some ⟨.ref C, some dx, .plain, #[]⟩ := I.obj
  refine wpAny_bind (wpAny_pure (wpAny_bind (wpAny_bind (wpAny_loadPart hx (wpAny_bind (PySem.W.Looks.here (s := { s with toks := s.toks + 1 }) (PySem.W.looks_clsIn X hc) ?_))))))
  rw [hd']
  refine wpAny_pure (a := some dx) (wpAny_bind (wpAny_pure (wpAny_bind ?_)))
  refine wpAny_nsSet1 (s := { s with toks := s.toks + 1 }) I.ns fun h' hn2 hs2 => ?_
  obtain ⟨oD, esD, epD, hoD, hdD, hcD⟩ := hn2.count (PySem.Within.cons name v hw)
  refine wpAny_bind (wpAny_lookBehind hoD (by rw [hdD]; exact pastItsLine_dict (Nat.le_trans hcD (by rw [List.length_cons]; omega))) ?_)
  exact wpAny_pure (h _ ⟨(hs2.2 _ (Ne.symm I.ne)).trans I.obj, hn2, I.ne⟩ hs2)
theorem make_map {R : Result → Shared → Prop} {vs : List Value} {kw : List (Str × Value)} (X : K.In s.heap) (hm : PySem.W.makesIn K C = true)
    (hi : PySem.W.findIn K (.ref C) "__init__" = some (some (.ref f))) (hf : PySem.W.typeIn K (.ref f) = some (.type "function"))
    (h : codeAny (model prog w) (A.under (.builtin "type.__call__" ⟨.ref C :: vs, kw⟩)) (.call (.ref f) ⟨.ref (s.heap.objs.size + 1) :: vs, kw⟩) (PySem.W.InitBack (s.heap.objs.size + 1) R)
      { s with heap := (s.heap.push PySem.W.emptyDict).push (PySem.W.instObj C s.heap.objs.size) }) :
    codeAny (model prog w) A (.call (.ref C) ⟨vs, kw⟩) R s := by
  obtain ⟨hh, g, d, t, os⟩ := s
  exact PySem.W.make_core (PySem.W.makes_of X hm) (PySem.W.looks_findIn X hi) (fun self => PySem.W.bind_fn X self hf) (.inl rfl) h
theorem make_map0 {R : Result → Shared → Prop} (X : K.In s.heap) (hm : PySem.W.makesIn K C = true)
    (hi : PySem.W.findIn K (.ref C) "__init__" = some (some (.builtin "object.__init__")))
    (hb : ∀ self, PySem.W.Looks (model prog w) s.heap (bindSpecial (.builtin "object.__init__") self) (.builtin "object.__init__", [self]))
    (h : codeAny (model prog w) (A.under (.builtin "type.__call__" ⟨[.ref C], []⟩)) (.call (.builtin "object.__init__") ⟨[.ref (s.heap.objs.size + 1)], []⟩) (PySem.W.InitBack (s.heap.objs.size + 1) R)
      { s with heap := (s.heap.push PySem.W.emptyDict).push (PySem.W.instObj C s.heap.objs.size) }) :
    codeAny (model prog w) A (.call (.ref C) ⟨[], []⟩) R s := by
  obtain ⟨hh, g, d, t, os⟩ := s
  exact PySem.W.make_core (PySem.W.makes_of X hm) (PySem.W.looks_findIn X hi) hb (.inr ⟨rfl, rfl⟩) h
end
def putF (f : Str) (v : V) : List (Str × V) → List (Str × V)
  | [] => [(f, v)]
  | (g, x) :: r => if g = f then (g, v) :: r else (g, x) :: putF f v r
theorem lookup_putF (f g : Str) (v : V) : ∀ fs : List (Str × V), (putF f v fs).lookup g = if g = f then some v else fs.lookup g
  | [] => by
    show List.lookup g [(f, v)] = _
    by_cases h : g = f
    · have hb : (g == f) = true := beq_iff_eq.mpr h
      simp only [List.lookup, hb, if_pos h]
    · have hb : (g == f) = false := beq_eq_false_iff_ne.mpr h
      simp only [List.lookup, hb, if_neg h]
  | (k, x) :: r => by
    have ih := lookup_putF f g v r
    rw [show putF f v ((k, x) :: r) = (if k = f then (k, v) :: r else (k, x) :: putF f v r) from rfl]
    by_cases hk : k = f
    · rw [if_pos hk]
      by_cases h : g = k
      · have hb : (g == k) = true := beq_iff_eq.mpr h
        simp only [List.lookup, hb, if_pos (h.trans hk)]
      · have hb : (g == k) = false := beq_eq_false_iff_ne.mpr h
        simp only [List.lookup, hb, if_neg (fun e : g = f => h (e.trans hk.symm))]
    · rw [if_neg hk]
      by_cases h : g = k
      · have hb : (g == k) = true := beq_iff_eq.mpr h
        simp only [List.lookup, hb, if_neg (fun e : g = f => hk (h.symm.trans e))]
      · have hb : (g == k) = false := beq_eq_false_iff_ne.mpr h
        simp only [List.lookup, hb]
        exact ih
theorem keys_putF (f : Str) (v : V) : ∀ fs : List (Str × V), f ∈ (putF f v fs).map (·.1) ∧ ∀ g, g ∈ fs.map (·.1) → g ∈ (putF f v fs).map (·.1)
  | [] => ⟨by simp [putF], fun g h => by simp at h⟩
  | (k, x) :: r => by
    obtain ⟨i1, i2⟩ := keys_putF f v r
    rw [show putF f v ((k, x) :: r) = (if k = f then (k, v) :: r else (k, x) :: putF f v r) from rfl]
    by_cases hk : k = f
    · rw [if_pos hk]
      subst hk
      exact ⟨by simp, fun g h => by simpa using h⟩
    · rw [if_neg hk]
      refine ⟨?_, fun g h => ?_⟩
      · rw [List.map_cons]
        exact List.mem_cons_of_mem _ i1
      · rw [List.map_cons] at h ⊢
        rcases List.mem_cons.mp h with e | e
        · exact List.mem_cons.mpr (.inl e)
        · exact List.mem_cons_of_mem _ (i2 g e)
theorem length_putF (f : Str) (v : V) : ∀ fs : List (Str × V), (putF f v fs).length ≤ fs.length + 1
  | [] => by simp [putF]
  | (k, x) :: r => by
    have ih := length_putF f v r
    rw [show putF f v ((k, x) :: r) = (if k = f then (k, v) :: r else (k, x) :: putF f v r) from rfl]
    by_cases hk : k = f
    · rw [if_pos hk, List.length_cons, List.length_cons]; omega
    · rw [if_neg hk, List.length_cons, List.length_cons]; omega
theorem RelO.some_of {v : V} {o : Option Value} (r : RelO (some v) o) : ∃ u, o = some u ∧ RelV v u := by
  cases o with
  | none => exact (show False from r).elim
  | some u => exact ⟨u, rfl, r⟩
theorem RelO.none_of {o : Option Value} (r : RelO none o) : o = none := by
  cases o with
  | none => rfl
  | some u => exact (show False from r).elim
theorem handed_of {v : V} {u : Value} (r : RelV v u) : PySem.W.handedIn u = true := by
  cases v with
  | non => cases (show u = Value.none from r); rfl
  | bl b => cases (show u = Value.bool b from r); rfl
  | int i => obtain ⟨t, e⟩ := (show ∃ t, u = Value.int i t from r); cases e; rfl
  | str x => obtain ⟨t, e⟩ := (show ∃ t, u = Value.str x t from r); cases e; rfl
  | byt b => obtain ⟨t, e⟩ := (show ∃ t, u = Value.bytes b t from r); cases e; rfl
  | flt b => obtain ⟨t, e⟩ := (show ∃ t, u = Value.float b t from r); cases e; rfl
  | ref a => cases (show u = Value.ref a from r); rfl
  | ty n => cases (show u = Value.type n from r); rfl
section
variable {P : Program} {w : World} {H H' : Hp} {h h' : Heap} {a C dx : Addr} {fs fs' : List (Str × V)}
theorem ins_get (hok : HOk P w H h) (e : H a = some (.ins C dx fs)) : ∃ mA, ObjM h a dx C mA ∧ (∀ f, RelO (fs.lookup f) (mA f)) ∧ PySem.Within mA (fs.map (·.1)) ∧ fs.length ≤ 1000 ∧ H dx = some (.own a) := by
  obtain ⟨d, z, ne, ob, mA, n, r, q⟩ := (show ObjOk P w H h a (.ins C dx fs) from hok a _ e)
  exact ⟨mA, ⟨ob, n, ne⟩, r, q, z, d⟩
end
structure Cls (K : PySem.W.Frag) (C : Addr) : Prop where
  pg : PySem.W.plainGet K C Str.empty = true
  hd : PySem.W.hasDictIn K C = true
  po : PySem.W.plainOver K C = true
  sa : PySem.W.findIn K (.ref C) "__setattr__" = some (some (.builtin "object.__setattr__"))
theorem Cls.get {K : PySem.W.Frag} {C : Addr} (c : Cls K C) (f : Str) : PySem.W.plainGet K C f = true := c.pg
def NoAttr (K : PySem.W.Frag) (C : Addr) (f : Str) : Prop := PySem.W.findIn K (.ref C) f = some none
theorem NoAttr.taker {K : PySem.W.Frag} {C : Addr} {f : Str} (n : NoAttr K C f) : PySem.W.takerIn K C f = some none := by
  unfold PySem.W.takerIn
  rw [show PySem.W.findIn K (.ref C) f = some none from n]
  rfl
structure Con (K : PySem.W.Frag) (C : Addr) (f : Str) (v : V) (u : Value) : Prop where
  at_ : PySem.W.findIn K (.ref C) f = some (some u)
  rel : RelV v u
  get : PySem.W.specialIn K u "__get__" = some none
  cp : PySem.W.copiedNames.contains f = false
structure Meth (K : PySem.W.Frag) (C : Addr) (m : Str) (f : Addr) : Prop where
  at_ : PySem.W.findIn K (.ref C) m = some (some (.ref f))
  fn : PySem.W.isFn K (.ref f) = true
  kp : PySem.W.keepIn K (.ref f) = true
section
variable {X : Cx} {pins : List (Addr × Obj)} {σ : St} {H : Hp} {s : Shared} {a C dx : Addr} {fs : List (Str × V)} {f : Str} {v : V} {A : Around} {E : Value → Shared → Prop}
theorem getattr_ok {b : Bool} {Q : Value → Shared → Prop} (I : Inv X pins σ H s) (e : H a = some (.ins C dx fs)) (c : Cls X.K C) (n : NoAttr X.K C f) (l : fs.lookup f = some v)
    (h : ∀ u s', Inv X pins σ H s' → RelV v u → Q u s') : wpAny (model X.prog X.w) A (getAttr (.ref a) f b) Q E s := by
  obtain ⟨mA, O, r, _, _, _⟩ := ins_get I.hok e
  obtain ⟨u, hu, ru⟩ := RelO.some_of (v := v) (o := mA f) (by rw [← l]; exact r f)
  exact get_map I.kIn O (c.get f) c.hd n hu (handed_of ru) (h u _ (I.tok _) ru)
theorem getcon_ok {b : Bool} {u : Value} {Q : Value → Shared → Prop} (I : Inv X pins σ H s) (e : H a = some (.ins C dx fs)) (c : Cls X.K C) (k : Con X.K C f v u) (l : fs.lookup f = none)
    (h : ∀ s', Inv X pins σ H s' → Q u s') : wpAny (model X.prog X.w) A (getAttr (.ref a) f b) Q E s := by
  obtain ⟨mA, O, r, _, _, _⟩ := ins_get I.hok e
  have hn : mA f = none := RelO.none_of (by rw [← l]; exact r f)
  exact get_const I.kIn O (c.get f) c.hd k.at_ k.get k.cp hn (handed_of k.rel) (h _ (I.tok _))
theorem getmeth_ok {m : Str} {g : Addr} {pl : Sem Bool} {Q : Value × List Value → Shared → Prop} (I : Inv X pins σ H s) (e : H a = some (.ins C dx fs)) (c : Cls X.K C) (k : Meth X.K C m g) (l : fs.lookup m = none)
    (h : Q (.ref g, [.ref a]) s) : wpAny (model X.prog X.w) A (getMethod (.ref a) m pl) Q E s := by
  obtain ⟨mA, O, r, _, _, _⟩ := ins_get I.hok e
  have hn : mA m = none := RelO.none_of (by rw [← l]; exact r m)
  exact get_meth I.kIn O (c.get m) k.at_ k.fn hn h
theorem setattr_ok {y : V} {u : Value} {Q : Unit → Shared → Prop} (I : Inv X pins σ H s) (e : H a = some (.ins C dx fs)) (c : Cls X.K C) (n : NoAttr X.K C f) (hl : fs.length < 1000) (ry : RelV y u)
    (h : ∀ s', Inv X pins σ (upd H a (.ins C dx (putF f y fs))) s' → Q () s') : wpAny (model X.prog X.w) A (setAttr (.ref a) f u) Q E s := by
  obtain ⟨mA, O, r, wi, _, ho⟩ := ins_get I.hok e
  have hz : (fs.map (·.1)).length ≤ sizeLine := by rw [List.length_map, sizeLine_eq]; omega
  refine set_map I.kIn O c.sa c.po n.taker c.hd wi hz fun h' O' sb => h _ ?_
  have hd : ∃ o, h'.get? dx = some o := let ⟨o, _, _, e', _⟩ := O'.ns; ⟨o, e'⟩
  refine I.write (x := a) (e := dx) (by rw [e]; exact True.intro) (.inr ho) (fun b q hb z => (sb.2 b hb).trans z) hd ?_
  refine ⟨by rw [upd_ne O.ne]; exact ho, ?_, O.ne, O'.obj, _, O'.ns, fun g => ?_, fun g hg => ?_⟩
  · have := length_putF f y fs; omega
  · show RelO ((putF f y fs).lookup g) (if g = f then some u else mA g)
    rw [lookup_putF]
    by_cases q : g = f
    · rw [if_pos q, if_pos q]; exact ry
    · rw [if_neg q, if_neg q]; exact r g
  · by_cases q : g = f
    · rw [q]; exact (keys_putF f y fs).1
    · refine (keys_putF f y fs).2 g (wi g fun z => hg ?_)
      show (if g = f then some u else mA g) = none
      rw [if_neg q]; exact z
theorem Inv.made (I : Inv X pins σ H s) : Inv X pins σ (upd (upd H s.heap.objs.size (.own (s.heap.objs.size + 1))) (s.heap.objs.size + 1) (.ins C s.heap.objs.size []))
    { s with heap := (s.heap.push PySem.W.emptyDict).push (PySem.W.instObj C s.heap.objs.size) } := by
  have e1 : (s.heap.push PySem.W.emptyDict).get? s.heap.objs.size = some PySem.W.emptyDict := Heap.get?_push_size s.heap rfl
  have e2 : ((s.heap.push PySem.W.emptyDict).push (PySem.W.instObj C s.heap.objs.size)).get? (s.heap.objs.size + 1) = some (PySem.W.instObj C s.heap.objs.size) := by
    have := Heap.get?_push_size (s.heap.push PySem.W.emptyDict) (o := PySem.W.instObj C s.heap.objs.size) rfl
    rwa [Heap.size_push] at this
  have e3 : (s.heap.push PySem.W.emptyDict).Ns s.heap.objs.size (fun _ => none) := ⟨PySem.W.emptyDict, #[], _, e1, rfl, (fun e he => absurd he (by simp)), fun _ => rfl⟩
  have I1 := I.laid (a := s.heap.objs.size) (o := .own (s.heap.objs.size + 1)) (h' := s.heap.push PySem.W.emptyDict) (t' := s.toks) (fun b u q => Heap.get?_push_of_some _ q) (Nat.le_refl _) ⟨_, e1⟩
  refine I1.laid (a := s.heap.objs.size + 1) (o := .ins C s.heap.objs.size []) (t' := s.toks) (fun b u q => Heap.get?_push_of_some _ q) (Nat.le_of_eq (Heap.size_push _ _)) ?_
  have ne : s.heap.objs.size ≠ s.heap.objs.size + 1 := Nat.ne_of_lt (Nat.lt_succ_self _)
  refine ⟨by rw [upd_ne ne, upd_same], Nat.zero_le _, ne, e2, fun _ => none, (Heap.Ns1.of_empty e3).at fun o q => Heap.get?_push_of_some _ q, fun _ => True.intro, fun y hy => absurd rfl hy⟩
theorem attr_of {prog : Program} {w : World} {env : Env} {e : Expr} {f : Str} {pos : Pos} {s : Shared} {Q : Value → Shared → Prop} (hb : attributeBase e f env (eval e env) = eval e env)
    (h : wpAny (model prog w) A (eval e env) (fun o s₁ => wpAny (model prog w) A (getAttr o f true) Q E s₁) E s) : wpAny (model prog w) A (eval (.Attribute e f pos) env) Q E s :=
  Attribute_any_ h (by rw [arm_eval_Attribute, hb])
end
def tFld (K : PySem.W.Frag) (ta : TE) (f : Str) : TE := fun σ H Q => ta σ H fun x H1 => ∃ a C dx fs v, x = .ref a ∧ H1 a = some (.ins C dx fs) ∧ Cls K C ∧ NoAttr K C f ∧ fs.lookup f = some v ∧ Q v H1
def tCon (K : PySem.W.Frag) (ta : TE) (f : Str) : TE := fun σ H Q => ta σ H fun x H1 => ∃ a C dx fs v u, x = .ref a ∧ H1 a = some (.ins C dx fs) ∧ Cls K C ∧ Con K C f v u ∧ fs.lookup f = none ∧ Q v H1
def sFld (K : PySem.W.Frag) (ta tv : TE) (f : Str) : TS := fun D σ H => tv σ H fun y H1 => ta σ H1 fun x H2 => ∃ a C dx fs, x = .ref a ∧ H2 a = some (.ins C dx fs) ∧ Cls K C ∧ NoAttr K C f ∧ fs.length < 1000 ∧
  D.nx σ (upd H2 a (.ins C dx (putF f y fs)))
def InOp (X : Cx) (op : Operator) (rd : V → V → Hp → VK → Prop) : Prop :=
  ∀ (pins : List (Addr × Obj)) (s : Shared) (σ : St) (H : Hp) (x y : V) (u v : Value) (Q : VK), Inv X pins σ H s → RelV x u → RelV y v → rd x y H Q → wpAny (model X.prog X.w) X.A (inplaceOp op u v) (EP X pins σ Q) X.xe s
def sFldAug (K : PySem.W.Frag) (ta tv : TE) (rd : V → V → Hp → VK → Prop) (f : Str) : TS := fun D σ H => ta σ H fun x H1 => ∃ a C dx fs v, x = .ref a ∧ H1 a = some (.ins C dx fs) ∧ Cls K C ∧ NoAttr K C f ∧ fs.lookup f = some v ∧
  tv σ H1 fun y H2 => rd v y H2 fun z H3 => ∃ dx' fs', H3 a = some (.ins C dx' fs') ∧ fs'.length < 1000 ∧ D.nx σ (upd H3 a (.ins C dx' (putF f z fs')))
section
variable {X : Cx} {o e value : Expr} {f : Str} {pos pos' tpos : Pos} {ta tv : TE}
theorem pe_fld (he : PE X e ta) (hb : attributeBase e f X.env (eval e X.env) = eval e X.env) : PE X (.Attribute e f pos) (tFld X.K ta f) := by
  intro pins s σ H Q I h
  refine attr_of hb (thn (he pins s σ H _ I h) fun u s1 ⟨x, H1, I1, rx, a, C, dx, fs, v, ex, ea, c, n, l, q⟩ => ?_)
  subst ex
  obtain rfl : u = Value.ref a := rx
  exact getattr_ok I1 ea c n l fun u' s2 I2 ru => ⟨v, H1, I2, ru, q⟩
theorem pe_con (he : PE X e ta) (hb : attributeBase e f X.env (eval e X.env) = eval e X.env) : PE X (.Attribute e f pos) (tCon X.K ta f) := by
  intro pins s σ H Q I h
  refine attr_of hb (thn (he pins s σ H _ I h) fun u s1 ⟨x, H1, I1, rx, a, C, dx, fs, v, u0, ex, ea, c, k, l, q⟩ => ?_)
  subst ex
  obtain rfl : u = Value.ref a := rx
  exact getcon_ok I1 ea c k l fun s2 I2 => ⟨v, H1, I2, k.rel, q⟩
theorem ps_fld (ha : PE X o ta) (hv : PE X value tv) (hs : swapsWith value (some (.Attribute o f pos')) pos.line X.env = pure false) : PS X (.Assign [.Attribute o f pos'] value pos) (sFld X.K ta tv f) := by
  intro pins s σ H D I h
  refine plainObj_wpAny_Assign_Attribute (thn (hv pins s σ H _ I h) fun u s1 ⟨y, H1, I1, ry, q⟩ => thn (ha pins s1 σ H1 _ I1 q) fun ov s2 ⟨x, H2, I2, rx, a, C, dx, fs, ex, ea, c, n, l, q2⟩ => ?_) hs
  subst ex
  obtain rfl : ov = Value.ref a := rx
  exact setattr_ok I2 ea c n l ry fun s3 I3 => ⟨σ, _, I3, q2⟩
theorem ps_fldaug {op : Operator} {rd : V → V → Hp → VK → Prop} (ha : PE X o ta) (hv : PE X value tv) (hop : InOp X op rd) : PS X (.AugAssign (.Attribute o f tpos) op value pos) (sFldAug X.K ta tv rd f) := by
  intro pins s σ H D I h
  refine wpAny_AugAssign_AttributeAny (thn (ha pins s σ H _ I h) fun ov s1 ⟨x, H1, I1, rx, a, C, dx, fs, v, ex, ea, c, n, l, q⟩ => ?_)
  subst ex
  obtain rfl : ov = Value.ref a := rx
  refine getattr_ok I1 ea c n l fun u s2 I2 ru => thn (hv pins s2 σ H1 _ I2 q) fun w3 s3 ⟨y, H2, I3, ry, q3⟩ => thn (hop pins s3 σ H2 v y u w3 _ I3 ru ry q3) fun w4 s4 ⟨z, H3, I4, rz, dx', fs', ea', l', q4⟩ => ?_
  exact setattr_ok I4 ea' c n l' rz fun s5 I5 => ⟨σ, _, I5, q4⟩
def rAdd : V → V → Hp → VK → Prop := fun x y H Q => ∃ i j, x = .int i ∧ y = .int j ∧ Q (.int (i + j)) H
def rSub : V → V → Hp → VK → Prop := fun x y H Q => ∃ i j, x = .int i ∧ y = .int j ∧ Q (.int (i - j)) H
theorem in_add : InOp X .Add rAdd := by
  rintro pins s σ H x y u v Q I rx ry ⟨i, j, rfl, rfl, q⟩
  obtain ⟨t, rfl⟩ := (show ∃ t, u = Value.int i t from rx)
  obtain ⟨t', rfl⟩ := (show ∃ t', v = Value.int j t' from ry)
  exact PyProof.Rows.iadd_int ⟨.int (i + j), H, I.tok _, ⟨_, rfl⟩, q⟩
theorem in_sub : InOp X .Sub rSub := by
  rintro pins s σ H x y u v Q I rx ry ⟨i, j, rfl, rfl, q⟩
  obtain ⟨t, rfl⟩ := (show ∃ t, u = Value.int i t from rx)
  obtain ⟨t', rfl⟩ := (show ∃ t', v = Value.int j t' from ry)
  exact PyProof.Rows.isub_int ⟨.int (i - j), H, I.tok _, ⟨_, rfl⟩, q⟩
theorem methcall_of {pl : Sem Bool} {m : Str} {apos : Pos} {args : List Expr} {pins : List (Addr × Obj)} {s : Shared} {σ : St} {H : Hp} {Q : Value → Shared → Prop} {te : TE} (he : PE X e te) (I : Inv X pins σ H s)
    (h : te σ H fun x H1 => ∃ a C dx fs g, x = .ref a ∧ H1 a = some (.ins C dx fs) ∧ Cls X.K C ∧ Meth X.K C m g ∧ fs.lookup m = none ∧
      ∀ s1, Inv X pins σ H1 s1 → wpAny (model X.prog X.w) X.A (callWith pos (.ref g) [.ref a] (backTo pos (starEach args X.env)) (backToKw pos (keywordEach [] X.env))) Q X.xe s1)
    (ht : eval (.Call (.Attribute e m apos) args [] pos) X.env = (do
      let ov ← eval e X.env
      standAt apos.atName
      let (f, first) ← holding [ov] (getMethod ov m pl)
      callWith pos f first (backTo pos (starEach args X.env)) (backToKw pos (keywordEach [] X.env)))) :
    wpAny (model X.prog X.w) X.A (eval (.Call (.Attribute e m apos) args [] pos) X.env) Q X.xe s := by
  refine PySem.W.methodCall_KW (pl := pl) (thn (he pins s σ H _ I h) fun u s1 ⟨x, H1, I1, rx, a, C, dx, fs, g, ex, ea, c, k, l, q⟩ => ?_) ht
  subst ex
  obtain rfl : u = Value.ref a := rx
  exact getmeth_ok I1 ea c k l (q s1 I1)
end
section
variable {X : Cx} {pins : List (Addr × Obj)} {σ : St} {H : Hp} {s : Shared} {A : Around} {E : Value → Shared → Prop} {Q : Value → Shared → Prop} {c : Value} {b : Bool}
inductive TyOf (K : PySem.W.Frag) (H : Hp) : V → Value → Prop where
  | non : TyOf K H .non (.type "NoneType")
  | bl (x : Bool) : TyOf K H (.bl x) (.type "bool")
  | int (i : Int) : TyOf K H (.int i) (.type "int")
  | str (x : Str) : TyOf K H (.str x) (.type "str")
  | flt (x : UInt64) : TyOf K H (.flt x) (.type "float")
  | lst {a : Addr} {xs : List V} (e : H a = some (.lst xs)) : TyOf K H (.ref a) (.type "list")
  | frz {a : Addr} {o : Obj} {xs : List V} (e : H a = some (.frz o (.lst xs))) : TyOf K H (.ref a) (.type "list")
  | tup {a : Addr} {xs : List V} (e : H a = some (.tup xs)) : TyOf K H (.ref a) (.type "tuple")
  | dK {a : Addr} {kvs : List (Key × V)} (e : H a = some (.dK kvs)) : TyOf K H (.ref a) (.type "dict")
  | dT {a : Addr} {kvs : List (List Key × V)} (e : H a = some (.dT kvs)) : TyOf K H (.ref a) (.type "dict")
  | ins {a C dx : Addr} {fs : List (Str × V)} (e : H a = some (.ins C dx fs)) (cl : Cls K C) (ha : PySem.W.findIn K (.ref C) "__class__" = some (some (.builtin "object.__class__")))
      (hn : PySem.W.specialIn K (.builtin "object.__class__") "__get__" = some (some (.builtin "getset_descriptor.__get__"))) (htk : PySem.W.takesIn K (.builtin "object.__class__") = some true)
      (hm : PySem.W.mroIn K C (.type "object") = some true) : TyOf K H (.ref a) (.ref C)
theorem isinst_ok {x : V} {u t : Value} (I : Inv X pins σ H s) (rx : RelV x u) (ty : TyOf X.K H x t) (e : PySem.W.kitOne X.K t c = some b) (h : ∀ tk, Q (.bool b) { s with toks := tk }) :
    wpAny (model X.prog X.w) A (call (.builtin "isinstance") [u, c]) Q E s := by
  cases ty with
  | non => cases (show u = Value.none from rx); exact PySem.W.kia_one PySem.W.kitx_none I.kIn True.intro e (fun z => nomatch z) h
  | bl y => cases (show u = Value.bool y from rx); exact PySem.W.kia_one PySem.W.kitx_bool I.kIn True.intro e (fun z => nomatch z) h
  | int i => obtain ⟨t, q⟩ := (show ∃ t, u = Value.int i t from rx); cases q; exact PySem.W.kia_one PySem.W.kitx_int I.kIn True.intro e (fun z => nomatch z) h
  | str y => obtain ⟨t, q⟩ := (show ∃ t, u = Value.str y t from rx); cases q; exact PySem.W.kia_one PySem.W.kitx_str I.kIn True.intro e (fun z => nomatch z) h
  | flt y => obtain ⟨t, q⟩ := (show ∃ t, u = Value.float y t from rx); cases q; exact PySem.W.kia_one PySem.W.kitx_float I.kIn True.intro e (fun z => nomatch z) h
  | @lst a xs ea =>
    cases (show u = Value.ref a from rx)
    obtain ⟨_, _, n, _, h1⟩ := (show ObjOk X.prog X.w H s.heap a (.lst xs) from I.hok a _ ea)
    exact PySem.W.kia_one PySem.W.kitx_list I.kIn ⟨_, h1, rfl⟩ e (fun z => nomatch z) h
  | @frz a ob xs ea =>
    cases (show u = Value.ref a from rx)
    obtain ⟨_, _, _, n, _, h1⟩ := (show ObjOk X.prog X.w H s.heap a (.frz ob (.lst xs)) from I.hok a _ ea)
    exact PySem.W.kia_one PySem.W.kitx_list I.kIn ⟨_, h1, rfl⟩ e (fun z => nomatch z) h
  | @tup a xs ea =>
    cases (show u = Value.ref a from rx)
    obtain ⟨_, _, _, p⟩ := (show ObjOk X.prog X.w H s.heap a (.tup xs) from I.hok a _ ea)
    obtain ⟨o, h1, h2, _⟩ := p
    exact PySem.W.kia_one PySem.W.kitx_tuple I.kIn ⟨o, h1, h2⟩ e (fun z => nomatch z) h
  | @dK a kvs ea =>
    cases (show u = Value.ref a from rx)
    obtain ⟨_, _, vs, _, p⟩ := (show ObjOk X.prog X.w H s.heap a (.dK kvs) from I.hok a _ ea)
    obtain ⟨o, es, ep, h1, h2, _⟩ := p
    exact PySem.W.kia_one PySem.W.kitx_dict I.kIn ⟨o, h1, h2.1⟩ e (fun z => nomatch z) h
  | @dT a kvs ea =>
    cases (show u = Value.ref a from rx)
    obtain ⟨_, _, xs, _, o, es, ep, h1, h2, _⟩ := (show ObjOk X.prog X.w H s.heap a (.dT kvs) from I.hok a _ ea)
    exact PySem.W.kia_one PySem.W.kitx_dict I.kIn ⟨o, h1, h2.1⟩ e (fun z => nomatch z) h
  | @ins a C dx fs ea cl ha hn htk hm =>
    cases (show u = Value.ref a from rx)
    obtain ⟨mA, O, _⟩ := ins_get I.hok ea
    obtain ⟨od, J, _⟩ := O.look
    exact PySem.W.kia_one (PySem.W.kitx_own (cl.get _) cl.hd ha hn htk hm) I.kIn J e (fun z => nomatch z) h
end
end L2
namespace L2
open PySem PySem.Spec PyProof.Rows
structure Room (k : Nat) (A : Around) : Prop where
  hd : A.handled = none
  dp : A.depth + 3 * k + 5 < recursionLimit
  un : A.units + 16 * k + 200 < cLine
  gd : A.guards = some []
theorem Room.mono {j k : Nat} {A : Around} (r : Room k A) (h : j ≤ k) : Room j A := ⟨r.hd, by have := r.dp; omega, by have := r.un; omega, r.gd⟩
theorem Room.deeper {k : Nat} {A : Around} (r : Room (k + 1) A) (env : Env) : Room k (A.deeper env) :=
  ⟨r.hd, by have := r.dp; show A.depth + 1 + 3 * k + 5 < _; omega, by have := r.un; show A.units + 3 + 16 * k + 200 < _; omega, r.gd⟩
theorem Room.in1 {k : Nat} {A : Around} (r : Room (k + 1) A) : Room k A.in1 :=
  ⟨r.hd, by have := r.dp; show A.depth + 3 * k + 5 < _; omega, by have := r.un; show A.units + 1 + 16 * k + 200 < _; omega, r.gd⟩
theorem make_depth {A : Around} {C : Addr} {us : List Value} {kw : List (Str × Value)} : (A.under (.builtin "type.__call__" ⟨.ref C :: us, kw⟩)).depth = A.depth + 1 := by
  first | rfl | simp [Around.under, Code.weight, Code.isCreation, Code.isGuard, Code.isCaller, Code.frames, Code.isFrame, guardIds]
theorem make_units {A : Around} {C : Addr} {us : List Value} {kw : List (Str × Value)} : (A.under (.builtin "type.__call__" ⟨.ref C :: us, kw⟩)).units = A.units + 1 := by
  first | rfl | simp [Around.under, Code.cUnits, Code.frames, Code.isFrame]
theorem Room.make {k : Nat} {A : Around} (r : Room (k + 1) A) (C : Addr) (us : List Value) (kw : List (Str × Value)) : Room k (A.under (.builtin "type.__call__" ⟨.ref C :: us, kw⟩)) :=
  ⟨r.hd, by have := r.dp; rw [make_depth]; omega, by have := r.un; rw [make_units]; omega, by first | exact r.gd | (simp [Around.under, Code.guards, Code.isGuard, guardIds, pushGuards]; exact r.gd)⟩
theorem Room.depth {k : Nat} {A : Around} (r : Room k A) : A.depth < recursionLimit := by have := r.dp; omega
theorem Room.units {k : Nat} {A : Around} (r : Room k A) : A.units + 64 < cLine := by have := r.un; omega
theorem Room.units0 {k : Nat} {A : Around} (r : Room k A) : A.units < cLine := by have := r.un; omega
def tNil : TA := fun _ H Q => Q [] H
def tCons (ta : TE) (tr : TA) : TA := fun σ H Q => ta σ H fun x H1 => tr σ H1 fun xs H2 => Q (x :: xs) H2
section
variable {X : Cx} {e : Expr} {es : List Expr} {te : TE} {t : TA} {pos : Pos}
theorem pa_nil : PA X [] tNil := fun _ _ _ _ H Q I h => Calls.spliced_nil ⟨[], H, I, .nil, h⟩
theorem pa_cons (ha : PE X e te) (hr : PA X es t) (hs : starEach (e :: es) X.env = (false, eval e X.env) :: starEach es X.env := by rfl) : PA X (e :: es) (tCons te t) := by
  intro pos pins s σ H Q I h
  rw [hs]
  show wpAny _ _ (spliced ((false, eval e X.env) :: backTo pos (starEach es X.env))) _ _ s
  refine Calls.spliced_cons (thn (ha pins s σ H _ I h) fun u s1 ⟨x, H1, I1, r1, q1⟩ => ?_)
  exact thn (hr pos pins s1 σ H1 _ I1 q1) fun us s2 ⟨xs, H2, I2, r2, q2⟩ => ⟨x :: xs, H2, I2, .cons r1 r2, q2⟩
def tTup (t : TA) : TE := fun σ H Q => t σ H fun xs H1 => xs.length ≤ sizeLine ∧ ∀ p, H1 p = none → Q (.ref p) (upd H1 p (.tup xs))
def tLst (t : TA) : TE := fun σ H Q => t σ H fun xs H1 => xs.length ≤ sizeLine ∧ ∀ p, H1 p = none → Q (.ref p) (upd H1 p (.lst xs))
theorem pe_tup {x1} (h : PA X es t) : PE X (.Tuple es x1 pos) (tTup t) := by
  intro pins s σ H Q I hq
  refine wpAny_Tuple_spliced (thn (h pos pins s σ H _ I hq) fun us s1 ⟨xs, H1, I1, r, z, q⟩ => ⟨by rw [← r.length]; exact z, ?_⟩)
  have hf : H1 s1.heap.objs.size = none := I1.hok.fresh (Nat.le_refl _)
  refine ⟨.ref s1.heap.objs.size, upd H1 s1.heap.objs.size (.tup xs), I1.laid (t' := s1.toks) (fun b u e => Heap.get?_push_of_some _ e) (Nat.le_refl _) ?_, rfl, q _ hf⟩
  exact ⟨z, us, r, ⟨_, Heap.get?_push_size _ rfl, rfl, rfl, _, rfl⟩⟩
theorem pe_lst (h : PA X es t) : PE X (.List es pos) (tLst t) := by
  intro pins s σ H Q I hq
  refine wpAny_List_spliced (thn (h pos pins s σ H _ I hq) fun us s1 ⟨xs, H1, I1, r, z, q⟩ => ⟨by rw [← r.length]; exact z, ?_⟩)
  have hf : H1 s1.heap.objs.size = none := I1.hok.fresh (Nat.le_refl _)
  refine ⟨.ref s1.heap.objs.size, upd H1 s1.heap.objs.size (.lst xs), I1.laid (t' := s1.toks) (fun b u e => Heap.get?_push_of_some _ e) (Nat.le_refl _) ?_, rfl, q _ hf⟩
  exact ⟨z, us, 0, r, Heap.get?_push_size _ rfl⟩
end
abbrev Sp := List V → Hp → VK → XK → Prop
abbrev CXT := List Env → Hp → Shared → XK → Value → Shared → Prop
structure Env0 (P : Program) (w : World) (K : PySem.W.Frag) (mg : Str → Option Value) (base : Heap) (A : Around) (outer : List Env) (s : Shared) (H : Hp) : Prop where
  frames : A.frames = some outer
  mod : Mod K mg base
  bs : ∀ b o, base.get? b = some o → s.heap.get? b = some o ∧ H b = none
  bsz : base.objs.size ≤ s.heap.objs.size
  funs : s.heap.FunFrames base outer
  frf : ∀ b ∈ frs outer, H b = none
  hok : HOk P w H s.heap
  bare : AllBare s.gens
def CE (outer : List Env) (P : Program) (w : World) (H : Hp) (s : Shared) (Q : VK) (u : Value) (s' : Shared) : Prop :=
  ∃ v H', s'.os = s.os ∧ AllBare s'.gens ∧ Un (frs outer) [] H H' s.heap s'.heap ∧ HOk P w H' s'.heap ∧ RelV v u ∧ Q v H'
def CR (CX : CXT) (outer : List Env) (P : Program) (w : World) (H : Hp) (s : Shared) (Q : VK) (E : XK) (r : Result) (s' : Shared) : Prop :=
  match r with
  | .ok (.ret u) => CE outer P w H s Q u s'
  | .ok _ => False
  | .error e => CX outer H s E e s'
structure FnOk (P : Program) (w : World) (K : PySem.W.Frag) (mg : Str → Option Value) (base : Heap) (CX : CXT) (k : Nat) (f : Addr) (fd : FuncData) (ps : List Str) (sp : Sp) : Prop where
  len : ∀ vs H Q E, sp vs H Q E → vs.length = ps.length
  run : ∀ (A : Around) (outer : List Env) (s : Shared) (H : Hp) (args : Args) (us : List Value) (vs : List V) (Q : VK) (E : XK), Room k A → Env0 P w K mg base A outer s H → BindsTo s fd args (ps.zip us) → Vals vs us → sp vs H Q E →
    codeAny (model P w) A (.call (.ref f) args) (CR CX outer P w H s Q E) s
theorem FnOk.mono {P : Program} {w : World} {K : PySem.W.Frag} {mg : Str → Option Value} {base : Heap} {CX : CXT} {j k : Nat} {f : Addr} {fd : FuncData} {ps : List Str} {sp : Sp} (F : FnOk P w K mg base CX j f fd ps sp) (h : j ≤ k) :
    FnOk P w K mg base CX k f fd ps sp := ⟨F.len, fun A outer s H args us vs Q E hr => F.run A outer s H args us vs Q E (hr.mono h)⟩
theorem FnOk.imp {P : Program} {w : World} {K : PySem.W.Frag} {mg : Str → Option Value} {base : Heap} {CX : CXT} {k : Nat} {f : Addr} {fd : FuncData} {ps : List Str} {sp sp' : Sp} (F : FnOk P w K mg base CX k f fd ps sp)
    (h : ∀ vs H Q E, sp' vs H Q E → sp vs H Q E) : FnOk P w K mg base CX k f fd ps sp' :=
  ⟨fun vs H Q E q => F.len vs H Q E (h _ _ _ _ q), fun A outer s H args us vs Q E hr he hb hv hs => F.run A outer s H args us vs Q E hr he hb hv (h _ _ _ _ hs)⟩
theorem Env0.make {P : Program} {w : World} {K : PySem.W.Frag} {mg : Str → Option Value} {base : Heap} {A : Around} {outer : List Env} {s : Shared} {H : Hp} (e : Env0 P w K mg base A outer s H) (C : Addr) (us : List Value) (kw : List (Str × Value)) :
    Env0 P w K mg base (A.under (.builtin "type.__call__" ⟨.ref C :: us, kw⟩)) outer s H := ⟨by first | exact e.frames | (simpa [Around.under, Code.envs, Code.isFrame, pushEnvs] using e.frames), e.mod, e.bs, e.bsz, e.funs, e.frf, e.hok, e.bare⟩
theorem Env0.in1 {P : Program} {w : World} {K : PySem.W.Frag} {mg : Str → Option Value} {base : Heap} {A : Around} {outer : List Env} {s : Shared} {H : Hp} (e : Env0 P w K mg base A outer s H) :
    Env0 P w K mg base A.in1 outer s H := ⟨e.frames, e.mod, e.bs, e.bsz, e.funs, e.frf, e.hok, e.bare⟩
section
variable {X : Cx} {pins : List (Addr × Obj)} {σ : St} {H : Hp} {s s' : Shared}
theorem Inv.env0 (I : Inv X pins σ H s) : Env0 X.prog X.w X.K X.mg X.base X.A X.stack s H :=
  ⟨I.ok.frames, I.ok.mod, I.bs, Nat.le_trans I.ok.bsz I.sz, I.stack, I.stkFree, I.hok, I.bare⟩
theorem Inv.after {Q : VK} {u : Value} (I : Inv X pins σ H s) (h : CE X.stack X.prog X.w H s Q u s') : EP X pins σ Q u s' := by
  obtain ⟨v, H', os, bare, un, hok, r, q⟩ := h
  obtain ⟨hh, g, d, t, os'⟩ := s'
  obtain rfl : os' = s.os := os
  exact ⟨v, H', I.call (h' := hh) (g' := g) (d' := d) (t' := t) (ch := []) un hok bare (fun b z => absurd z (by simp)), r, q⟩
end
def tCall (sp : Sp) (dvs : List V) (E : XK) (t : TA) : TE := fun σ H Q => t σ H fun vs H1 => sp (vs ++ dvs) H1 Q E
def tMeth (C : Addr) (m : Str) (sp : Sp) (dvs : List V) (E : XK) (ta : TE) (t : TA) : TE := fun σ H Q => ta σ H fun x H1 => ∃ a dx fs, x = .ref a ∧ H1 a = some (.ins C dx fs) ∧ fs.lookup m = none ∧
  t σ H1 fun vs H2 => sp (x :: (vs ++ dvs)) H2 Q E
def tMake (C : Addr) (sp : Sp) (dvs : List V) (E : XK) (t : TA) : TE := fun σ H Q => t σ H fun vs H1 => ∀ x dx, H1 x = none → H1 dx = none → dx ≠ x →
  sp (.ref x :: (vs ++ dvs)) (upd (upd H1 dx (.own x)) x (.ins C dx [])) (fun v H2 => v = .non ∧ Q (.ref x) H2) E
def Binds (K : PySem.W.Frag) (fd : FuncData) (ps : List Str) (ds : List Value) : Prop :=
  ∀ (s : Shared) (us : List Value), K.In s.heap → (us ++ ds).length = ps.length → BindsTo s fd ⟨us, []⟩ (ps.zip (us ++ ds))
theorem Binds.all {K : PySem.W.Frag} {fd : FuncData} {ps : List Str} (h : ∀ us : List Value, us.length = ps.length → bindArgs fd ⟨us, []⟩ = pure (ps.zip us)) : Binds K fd ps [] := fun s us _ hl => by
  rw [List.append_nil] at hl ⊢
  exact .of_eq (h us hl)
def Passes (CX : CXT) (X : Cx) (E : XK) : Prop := ∀ (pins : List (Addr × Obj)) (σ : St) (H : Hp) (s : Shared) (e : Value) (s' : Shared), Inv X pins σ H s → CX X.stack H s E e s' → X.xe e s'
section
variable {X : Cx} {CX : CXT} {k : Nat} {f C : Addr} {fd : FuncData} {ps : List Str} {sp : Sp} {dvs : List V} {ds : List Value} {E : XK} {x m : Str} {p pos apos : Pos} {e o : Expr} {es : List Expr} {ta : TE} {t : TA}
theorem run_fn {pins : List (Addr × Obj)} {σ : St} {H : Hp} {s : Shared} {Q : VK} {us : List Value} {vs : List V} (F : FnOk X.prog X.w X.K X.mg X.base CX k f fd ps sp) (hr : Room k X.A) (hb : Binds X.K fd ps ds) (hd : Vals dvs ds) (hx : Passes CX X E)
    (I : Inv X pins σ H s) (r : Vals vs us) (h : sp (vs ++ dvs) H Q E) : wpAny (model X.prog X.w) X.A (call (.ref f) us) (EP X pins σ Q) X.xe s := by
  have r2 : Vals (vs ++ dvs) (us ++ ds) := r.append hd
  have hl : (us ++ ds).length = ps.length := by rw [← r2.length]; exact F.len _ _ _ _ h
  refine wpAny_call (codeAny_mono (F.run X.A X.stack s H ⟨us, []⟩ (us ++ ds) (vs ++ dvs) Q E hr I.env0 (hb s us I.kIn hl) r2 h) fun r s' hq => ?_)
  cases r with
  | error e => exact hx pins σ H s e s' I hq
  | ok fl =>
    cases fl with
    | ret u => exact I.after hq
    | next => exact False.elim hq
    | brk => exact False.elim hq
    | cont => exact False.elim hq
theorem pe_call (F : FnOk X.prog X.w X.K X.mg X.base CX k f fd ps sp) (hr : Room k X.A) (hg : Gl X x) (hm : X.mg x = some (.ref f)) (hk : PySem.W.keepIn X.K (.ref f) = true) (hb : Binds X.K fd ps ds) (hd : Vals dvs ds) (hx : Passes CX X E)
    (ha : PA X (e :: es) t) (hdb : (x == ("__debug__" : Str)) = false := by decide) (he : starEach (e :: es) X.env = (false, eval e X.env) :: starEach es X.env := by rfl) (hpl : (backTo pos (starEach es X.env)).any (·.1) = false := by rfl) :
    PE X (.Call (.Name x p) (e :: es) [] pos) (tCall sp dvs E t) := by
  intro pins s σ H Q I h
  refine wpAny_Call_Name_kw (ld_glob I hg hm ?_ hdb)
  refine PySem.W.callWith_K (h₀ := X.base) I.ok.mod.kin hk (thn (ha pos pins s σ H _ I h) fun us s1 ⟨vs, H1, I1, r, q⟩ => ⟨I1.kIn, ?_⟩) he hpl
  exact run_fn F hr hb hd hx I1 r q
theorem pe_call0 (F : FnOk X.prog X.w X.K X.mg X.base CX k f fd ps sp) (hr : Room k X.A) (hg : Gl X x) (hm : X.mg x = some (.ref f)) (hk : PySem.W.keepIn X.K (.ref f) = true) (hb : Binds X.K fd ps ds) (hd : Vals dvs ds) (hx : Passes CX X E)
    (hdb : (x == ("__debug__" : Str)) = false := by decide) : PE X (.Call (.Name x p) [] [] pos) (tCall sp dvs E tNil) := by
  intro pins s σ H Q I h
  refine wpAny_Call_Name_kw (ld_glob I hg hm ?_ hdb)
  exact PySem.W.callWith_K0 I.kIn hk (run_fn (us := []) F hr hb hd hx I .nil h)
theorem pe_meth {pl : Sem Bool} (he : PE X o ta) (c : Cls X.K C) (hm : Meth X.K C m f) (F : FnOk X.prog X.w X.K X.mg X.base CX k f fd ps sp) (hr : Room k X.A) (hb : Binds X.K fd ps ds) (hd : Vals dvs ds) (hx : Passes CX X E) (ha : PA X (e :: es) t)
    (hst : starEach (e :: es) X.env = (false, eval e X.env) :: starEach es X.env := by rfl) (hpl : (backTo pos (starEach es X.env)).any (·.1) = false := by rfl)
    (ht : eval (.Call (.Attribute o m apos) (e :: es) [] pos) X.env = (do
      let ov ← eval o X.env
      standAt apos.atName
      let (f, first) ← holding [ov] (getMethod ov m pl)
      callWith pos f first (backTo pos (starEach (e :: es) X.env)) (backToKw pos (keywordEach [] X.env))) := by rfl) :
    PE X (.Call (.Attribute o m apos) (e :: es) [] pos) (tMeth C m sp dvs E ta t) := by
  intro pins s σ H Q I h
  refine PySem.W.methodCall_KW (pl := pl) (thn (he pins s σ H _ I h) fun u s1 ⟨x, H1, I1, rx, a, dx, fs, ex, ea, l, q⟩ => ?_) ht
  subst ex
  obtain rfl : u = Value.ref a := rx
  refine getmeth_ok I1 ea c hm l ?_
  refine PySem.W.callWith_K (first := [.ref a]) (h₀ := X.base) I.ok.mod.kin hm.kp (thn (ha pos pins s1 σ H1 _ I1 q) fun us s2 ⟨vs, H2, I2, r, q2⟩ => ⟨I2.kIn, ?_⟩) hst hpl
  exact run_fn (us := .ref a :: us) (vs := .ref a :: vs) F hr hb hd hx I2 (.cons rfl r) q2
theorem pe_meth0 {pl : Sem Bool} (he : PE X o ta) (c : Cls X.K C) (hm : Meth X.K C m f) (F : FnOk X.prog X.w X.K X.mg X.base CX k f fd ps sp) (hr : Room k X.A) (hb : Binds X.K fd ps ds) (hd : Vals dvs ds) (hx : Passes CX X E)
    (ht : eval (.Call (.Attribute o m apos) [] [] pos) X.env = (do
      let ov ← eval o X.env
      standAt apos.atName
      let (f, first) ← holding [ov] (getMethod ov m pl)
      callWith pos f first (backTo pos (starEach [] X.env)) (backToKw pos (keywordEach [] X.env))) := by rfl) :
    PE X (.Call (.Attribute o m apos) [] [] pos) (tMeth C m sp dvs E ta tNil) := by
  intro pins s σ H Q I h
  refine PySem.W.methodCall_KW (pl := pl) (thn (he pins s σ H _ I h) fun u s1 ⟨x, H1, I1, rx, a, dx, fs, ex, ea, l, q⟩ => ?_) ht
  subst ex
  obtain rfl : u = Value.ref a := rx
  refine getmeth_ok I1 ea c hm l ?_
  exact PySem.W.callWith_K0 (first := [.ref a]) I1.kIn hm.kp (run_fn (us := [.ref a]) (vs := [.ref a]) F hr hb hd hx I1 (.cons rfl .nil) q)
structure Mk (K : PySem.W.Frag) (C f : Addr) : Prop where
  makes : PySem.W.makesIn K C = true
  init : PySem.W.findIn K (.ref C) "__init__" = some (some (.ref f))
  fn : PySem.W.isFn K (.ref f) = true
  kp : PySem.W.keepIn K (.ref C) = true
theorem run_make {pins : List (Addr × Obj)} {σ : St} {H : Hp} {s : Shared} {Q : VK} {us : List Value} {vs : List V} (M : Mk X.K C f) (F : FnOk X.prog X.w X.K X.mg X.base CX k f fd ps sp) (hr : Room (k + 1) X.A) (hb : Binds X.K fd ps ds) (hd : Vals dvs ds)
    (hx : Passes CX X E) (I : Inv X pins σ H s) (r : Vals vs us)
    (h : ∀ x dx, H x = none → H dx = none → dx ≠ x → sp (.ref x :: (vs ++ dvs)) (upd (upd H dx (.own x)) x (.ins C dx [])) (fun v H2 => v = .non ∧ Q (.ref x) H2) E) :
    wpAny (model X.prog X.w) X.A (call (.ref C) us) (EP X pins σ Q) X.xe s := by
  have hq := h (s.heap.objs.size + 1) s.heap.objs.size (I.hok.fresh (Nat.le_succ _)) (I.hok.fresh (Nat.le_refl _)) (Nat.ne_of_lt (Nat.lt_succ_self _))
  have I2 := Inv.made (C := C) I
  have r2 : Vals (V.ref (s.heap.objs.size + 1) :: (vs ++ dvs)) (Value.ref (s.heap.objs.size + 1) :: (us ++ ds)) := .cons rfl (r.append hd)
  have hl : (Value.ref (s.heap.objs.size + 1) :: us ++ ds).length = ps.length := by
    have e := r2.length
    rw [F.len _ _ _ _ hq] at e
    exact e.symm
  refine wpAny_call (make_map (f := f) I.kIn M.makes M.init (beq_iff_eq.mp M.fn) (codeAny_mono (F.run _ X.stack _ _ ⟨Value.ref (s.heap.objs.size + 1) :: us, []⟩ (Value.ref (s.heap.objs.size + 1) :: (us ++ ds)) _ _ E (hr.make C us [])
    (I2.env0.make C us []) (hb _ (Value.ref (s.heap.objs.size + 1) :: us) I2.kIn hl) r2 hq) fun r s' hq' => ?_))
  cases r with
  | error e => exact hx pins σ _ _ e s' I2 hq'
  | ok fl =>
    cases fl with
    | ret u =>
      obtain ⟨v, H', I3, rv, ev, q3⟩ := I2.after hq'
      subst ev
      exact ⟨rv, ⟨V.ref (s.heap.objs.size + 1), H', I3, rfl, q3⟩⟩
    | next => exact False.elim hq'
    | brk => exact False.elim hq'
    | cont => exact False.elim hq'
theorem pe_make (M : Mk X.K C f) (F : FnOk X.prog X.w X.K X.mg X.base CX k f fd ps sp) (hr : Room (k + 1) X.A) (hg : Gl X x) (hm : X.mg x = some (.ref C)) (hb : Binds X.K fd ps ds) (hd : Vals dvs ds) (hx : Passes CX X E)
    (ha : PA X (e :: es) t) (hdb : (x == ("__debug__" : Str)) = false := by decide) (he : starEach (e :: es) X.env = (false, eval e X.env) :: starEach es X.env := by rfl) (hpl : (backTo pos (starEach es X.env)).any (·.1) = false := by rfl) :
    PE X (.Call (.Name x p) (e :: es) [] pos) (tMake C sp dvs E t) := by
  intro pins s σ H Q I h
  refine wpAny_Call_Name_kw (ld_glob I hg hm ?_ hdb)
  refine PySem.W.callWith_K (h₀ := X.base) I.ok.mod.kin M.kp (thn (ha pos pins s σ H _ I h) fun us s1 ⟨vs, H1, I1, r, q⟩ => ⟨I1.kIn, ?_⟩) he hpl
  exact run_make M F hr hb hd hx I1 r q
theorem pe_make0 (M : Mk X.K C f) (F : FnOk X.prog X.w X.K X.mg X.base CX k f fd ps sp) (hr : Room (k + 1) X.A) (hg : Gl X x) (hm : X.mg x = some (.ref C)) (hb : Binds X.K fd ps ds) (hd : Vals dvs ds) (hx : Passes CX X E)
    (hdb : (x == ("__debug__" : Str)) = false := by decide) : PE X (.Call (.Name x p) [] [] pos) (tMake C sp dvs E tNil) := by
  intro pins s σ H Q I h
  refine wpAny_Call_Name_kw (ld_glob I hg hm ?_ hdb)
  exact PySem.W.callWith_K0 I.kIn M.kp (run_make (us := []) M F hr hb hd hx I .nil h)
end
def PK (X : Cx) (kws : List Keyword) (t : TA) : Prop :=
  ∀ (pos : Pos) (pins : List (Addr × Obj)) (s : Shared) (σ : St) (H : Hp) (Q : List V → Hp → Prop), Inv X pins σ H s → t σ H Q → wpAny (model X.prog X.w) X.A (evalAll ((backToKw pos (keywordEach kws X.env)).map (·.2))) (AP X pins σ Q) X.xe s
section
variable {X : Cx} {CX : CXT} {k : Nat} {f C : Addr} {fd : FuncData} {ps ks : List Str} {sp : Sp} {E : XK} {x m : Str} {p pos apos kpos : Pos} {e o : Expr} {es : List Expr} {kws : List Keyword} {te ta : TE} {t tk : TA} {nm : Option Str}
theorem pk_nil : PK X [] tNil := fun _ _ _ _ H Q I h => wpAny_evalAll_nil ⟨[], H, I, .nil, h⟩
theorem pk_cons (ha : PE X e te) (hr : PK X kws t) : PK X (⟨nm, e, kpos⟩ :: kws) (tCons te t) := by
  intro pos pins s σ H Q I h
  show wpAny _ _ (evalAll ((do let v ← eval e X.env; standAt pos; pure v) :: (backToKw pos (keywordEach kws X.env)).map (·.2))) _ _ s
  refine wpAny_evalAll_cons (wpAny_bind (thn (ha pins s σ H _ I h) fun u s1 ⟨x, H1, I1, r1, q1⟩ => wpAny_bind (wpAny_standAt (wpAny_pure ?_))))
  exact thn (hr pos pins s1 σ H1 _ I1 q1) fun us s2 ⟨xs, H2, I2, r2, q2⟩ => ⟨x :: xs, H2, I2, .cons r1 r2, q2⟩
structure KBinds (K : PySem.W.Frag) (fd : FuncData) (ps ks : List Str) (g : List Value → List Value → List Value) (gV : List V → List V → List V) : Prop where
  to : ∀ (s : Shared) (us ws : List Value), K.In s.heap → (g us ws).length = ps.length → BindsTo s fd ⟨us, ks.zip ws⟩ (ps.zip (g us ws))
  rel : ∀ {vs : List V} {us : List Value} {zs : List V} {ws : List Value}, Vals vs us → Vals zs ws → Vals (gV vs zs) (g us ws)
def tCallK (sp : Sp) (gV : List V → List V → List V) (E : XK) (t tk : TA) : TE := fun σ H Q => t σ H fun vs H1 => tk σ H1 fun zs H2 => sp (gV vs zs) H2 Q E
variable {g : List Value → List Value → List Value} {gV : List V → List V → List V}
theorem run_fnk {pins : List (Addr × Obj)} {σ : St} {H : Hp} {s : Shared} {Q : VK} {us ws : List Value} {vs zs : List V} (F : FnOk X.prog X.w X.K X.mg X.base CX k f fd ps sp) (hr : Room k X.A) (hb : KBinds X.K fd ps ks g gV) (hx : Passes CX X E)
    (I : Inv X pins σ H s) (r : Vals vs us) (rz : Vals zs ws) (h : sp (gV vs zs) H Q E) : wpAny (model X.prog X.w) X.A (call (.ref f) us (ks.zip ws)) (EP X pins σ Q) X.xe s := by
  have r2 := hb.rel r rz
  have hl : (g us ws).length = ps.length := by rw [← r2.length]; exact F.len _ _ _ _ h
  refine wpAny_call (codeAny_mono (F.run X.A X.stack s H ⟨us, ks.zip ws⟩ (g us ws) (gV vs zs) Q E hr I.env0 (hb.to s us ws I.kIn hl) r2 h) fun r s' hq => ?_)
  cases r with
  | error e => exact hx pins σ H s e s' I hq
  | ok fl =>
    cases fl with
    | ret u => exact I.after hq
    | next => exact False.elim hq
    | brk => exact False.elim hq
    | cont => exact False.elim hq
theorem pe_callK (F : FnOk X.prog X.w X.K X.mg X.base CX k f fd ps sp) (hr : Room k X.A) (hg : Gl X x) (hm : X.mg x = some (.ref f)) (hk : PySem.W.keepIn X.K (.ref f) = true) (hb : KBinds X.K fd ps ks g gV) (hx : Passes CX X E)
    (ha : PA X (e :: es) t) (hkw : PK X kws tk) (hall : (backToKw pos (keywordEach kws X.env)).all (·.1.isSome) = true := by rfl) (hks : (backToKw pos (keywordEach kws X.env)).filterMap (·.1) = ks := by rfl)
    (hdb : (x == ("__debug__" : Str)) = false := by decide) (he : starEach (e :: es) X.env = (false, eval e X.env) :: starEach es X.env := by rfl)
    (hpl : ((backTo pos (starEach (e :: es) X.env)).any (·.1) || (backToKw pos (keywordEach kws X.env)).any (·.1.isNone)) = false := by rfl) :
    PE X (.Call (.Name x p) (e :: es) kws pos) (tCallK sp gV E t tk) := by
  intro pins s σ H Q I h
  refine wpAny_Call_Name_kw (ld_glob I hg hm ?_ hdb)
  refine PySem.W.callWith_KW (h₀ := X.base) I.ok.mod.kin hk hall (thn (ha pos pins s σ H _ I h) fun us s1 ⟨vs, H1, I1, r, q⟩ => ?_) hpl he
  refine thn (hkw pos pins s1 σ H1 _ I1 q) fun ws s2 ⟨zs, H2, I2, rz, q2⟩ => ⟨I2.kIn, ?_⟩
  rw [hks]
  exact run_fnk F hr hb hx I2 r rz q2
end
structure FnScope (N P : List Str) (sc : Scope) : Prop where
  kind : sc.kind = .function
  co : sc.isCoroutine = false
  gen : sc.isGenerator = false
  nd : N.Nodup
  pre : N.take P.length = P
  par : ∀ x ∈ P, sc.names.lookup x = some .local ∨ sc.names.lookup x = some .cell
  nofree : ∀ y ∈ sc.names, y.2 ≠ .free
theorem bindL_out {kindOf : Str → Option NameKind} {x : Str} : ∀ {binds : List (Str × Value)} {m : Str → Option Value}, (∀ v, (x, v) ∉ binds) → bindL kindOf binds m x = m x
  | [], _, _ => rfl
  | (n, v) :: r, m, h => by
    unfold bindL
    rw [bindL_out fun w hw => h w (List.mem_cons_of_mem _ hw)]
    split
    · have : x ≠ n := by rintro rfl; exact h v List.mem_cons_self
      simp [this]
    · rfl
theorem bindC_out {kindOf : Str → Option NameKind} {x : Str} : ∀ {binds : List (Str × Value)} {m : Str → Option Value}, (∀ v, (x, v) ∉ binds) → bindC kindOf binds m x = m x
  | [], _, _ => rfl
  | (n, v) :: r, m, h => by
    unfold bindC
    rw [bindC_out fun w hw => h w (List.mem_cons_of_mem _ hw)]
    split
    · rfl
    · have : x ≠ n := by rintro rfl; exact h v List.mem_cons_self
      simp [this]
theorem bindL_get {kindOf : Str → Option NameKind} {x : Str} {v : Value} : ∀ {P : List Str} {vs : List Value} {i : Nat} {m : Str → Option Value}, P.Nodup → P[i]? = some x → vs[i]? = some v → kindOf x = some .local →
    bindL kindOf (P.zip vs) m x = some v
  | [], _, _, _, _, h, _, _ => by simp at h
  | _ :: _, [], _, _, _, _, h, _ => by simp at h
  | p :: P, w :: vs, 0, m, nd, h1, h2, hk => by
    simp at h1 h2; subst h1; subst h2
    show bindL kindOf ((p, w) :: P.zip vs) m p = _
    unfold bindL
    rw [bindL_out fun v hv => (List.nodup_cons.mp nd).1 (List.of_mem_zip hv).1, if_pos hk]
    simp
  | p :: P, w :: vs, i + 1, m, nd, h1, h2, hk => by
    show bindL kindOf ((p, w) :: P.zip vs) m x = _
    unfold bindL
    exact bindL_get (i := i) (List.nodup_cons.mp nd).2 (by simpa using h1) (by simpa using h2) hk
theorem bindC_get {kindOf : Str → Option NameKind} {x : Str} {v : Value} : ∀ {P : List Str} {vs : List Value} {i : Nat} {m : Str → Option Value}, P.Nodup → P[i]? = some x → vs[i]? = some v → kindOf x ≠ some .local →
    bindC kindOf (P.zip vs) m x = some v
  | [], _, _, _, _, h, _, _ => by simp at h
  | _ :: _, [], _, _, _, _, h, _ => by simp at h
  | p :: P, w :: vs, 0, m, nd, h1, h2, hk => by
    simp at h1 h2; subst h1; subst h2
    show bindC kindOf ((p, w) :: P.zip vs) m p = _
    unfold bindC
    rw [bindC_out fun v hv => (List.nodup_cons.mp nd).1 (List.of_mem_zip hv).1, if_neg hk]
    simp
  | p :: P, w :: vs, i + 1, m, nd, h1, h2, hk => by
    show bindC kindOf ((p, w) :: P.zip vs) m x = _
    unfold bindC
    exact bindC_get (i := i) (List.nodup_cons.mp nd).2 (by simpa using h1) (by simpa using h2) hk
def start (N : List Str) (vs : List V) : St := vs.map some ++ List.replicate (N.length - vs.length) none
def cxOf (CX : CXT) (P : Program) (w : World) (K : PySem.W.Frag) (mg : Str → Option Value) (base : Heap) (N : List Str) (qual : Str) (scope : Scope) (f : Addr) (cd : Value) (A : Around) (outer : List Env) (s : Shared) (H : Hp) (E : XK) : Cx where
  prog := P
  w := w
  K := K
  mg := mg
  base := base
  A := A.deeper (envOfC qual scope s.heap.objs.size f cd)
  N := N
  s₀ := s
  H₀ := H
  env := envOfC qual scope s.heap.objs.size f cd
  outer := outer
  stack := envOfC qual scope s.heap.objs.size f cd :: outer
  ex := []
  calm := true
  fn := fun _ => true
  pn := []
  xe := fun e s' => wpAny (model P w) (A.deeper (envOfC qual scope s.heap.objs.size f cd)) (leaving (envOfC qual scope s.heap.objs.size f cd) e) (fun _ s'' => CX outer H s E e s'') (fun e' s'' => CX outer H s E e' s'') s'
theorem cell_has {sc : Scope} {n : Nat} {x : Str} (h : sc.names.lookup x = some .cell) : ∃ c, (cellsFrom n sc.names []).lookup x = some c := by
  have q := PySem.W.cellsFrom_some sc.names n [] (.inl h)
  exact Option.isSome_iff_exists.mp q
theorem inv_start {CX : CXT} {P : Program} {w : World} {K : PySem.W.Frag} {mg : Str → Option Value} {base : Heap} {N ps : List Str} {qual : Str} {scope : Scope} {f : Addr} {cd : Value} {A : Around} {outer : List Env} {s s1 : Shared} {H : Hp} {E : XK} {us : List Value} {vs : List V}
    (S : FnScope N ps scope) (hd : A.handled = none) (e0 : Env0 P w K mg base A outer s H) (hl : vs.length = ps.length) (r : Vals vs us)
    (x : InCallC s s.heap.objs.size (bindL (envOfC qual scope s.heap.objs.size f cd).kindOf (ps.zip us) fun _ => none) (cellsFrom (s.heap.objs.size + 1) scope.names []) (bindC (envOfC qual scope s.heap.objs.size f cd).kindOf (ps.zip us) fun _ => none) s1) :
    Inv (cxOf CX P w K mg base N qual scope f cd A outer s H E) [] (start N vs) H s1 := by
  have hpl : ps.length ≤ N.length := by have := congrArg List.length S.pre; rw [List.length_take] at this; omega
  obtain ⟨h1, tk, rfl, hk⟩ := x.done
  have noA : ∀ b : Addr, b ∉ (cxOf CX P w K mg base N qual scope f cd A outer s H E).ex := fun b z => absurd (show b ∈ ([] : List Addr) from z) (by simp)
  refine ⟨⟨e0.mod, S.kind, rfl, rfl, Nat.le_refl _, fun y z c h1 h2 => ?_, fun y hy => ?_, fun y c _ h => ?_, fun _ => hd, Around.frames_deeper e0.frames, .inr ⟨rfl, rfl⟩, fun b z => absurd z (noA b), e0.bs, e0.bsz, fun b _ _ => noA b, fun b z => absurd z (noA b), e0.funs, e0.frf⟩,
    rfl, e0.bare, Un.kept hk, ⟨_, x.toInCall.ns, fun i y v h1 h2 h3 => ?_⟩, fun y c h => ⟨_, x.cell y c h⟩, e0.hok.fresh (Nat.le_refl _), fun y c h => ?_, fun p hp => absurd (show p ∈ ([] : List (Addr × Obj)) from hp) (by simp), e0.hok.kept hk, ?_⟩
  · exact name_of_addr x.apart (PySem.mem_of_lookup h1) (PySem.mem_of_lookup h2)
  · have hy : scope.names.lookup y = some .cell ∨ scope.names.lookup y = some .free := hy
    rcases hy with hy | hy
    · exact cell_has hy
    · exact absurd rfl (S.nofree _ (PySem.mem_of_lookup hy))
  · exact Nat.le_of_lt (x.above y c (PySem.mem_of_lookup h))
  · have hi : i < vs.length := by
      unfold start at h2
      by_cases hi : i < vs.length
      · exact hi
      · rw [List.getElem?_append_right (by simpa using hi)] at h2
        rw [List.getElem?_replicate] at h2
        split at h2 <;> cases h2
    have ha : vs[i]? = some v := by
      unfold start at h2
      rw [List.getElem?_append_left (by simpa using hi), List.getElem?_map] at h2
      cases e : vs[i]? with
      | none => rw [e] at h2; cases h2
      | some a => rw [e] at h2; cases h2; rfl
    obtain ⟨u, hu, rv⟩ := r.get ha
    have hp : ps[i]? = some y := by
      rw [← S.pre, List.getElem?_take_of_lt (by omega)]; exact h1
    have ndP : ps.Nodup := by rw [← S.pre]; exact S.nd.sublist (List.take_sublist _ _)
    refine ⟨u, rv, ?_⟩
    rcases S.par y (List.mem_of_getElem? hp) with k | k
    · exact .inl ⟨k, bindL_get ndP hp hu k⟩
    · obtain ⟨c, e⟩ := cell_has (n := s.heap.objs.size + 1) k
      refine .inr ⟨.inl k, c, e, ?_⟩
      have q := x.cell y c e
      rw [bindC_get ndP hp hu (by show scope.names.lookup y ≠ _; rw [k]; decide)] at q
      exact q
  · exact e0.hok.fresh (Nat.le_of_lt (x.above y c (PySem.mem_of_lookup h)))
  · unfold start
    show _ = N.length
    rw [List.length_append, List.length_map, List.length_replicate]
    omega
theorem fn_of {CX : CXT} {P : Program} {w : World} {K : PySem.W.Frag} {mg : Str → Option Value} {base : Heap} {k : Nat} {f : Addr} {name qual : Str} {params : Arguments} {body : List Stmt} {scope : Scope} {dV kV doc pm cdv ct oc : Value} {an od : Option Addr}
    {osl : Array (Option Value)} {N ps : List Str} {sp : Sp} (lk : K.lookup f = some ⟨oc, od, .func (PySem.W.fnOf name qual params body scope dV kV doc pm an cdv ct), osl⟩) (hcd : PySem.W.codeIn K cdv qual = true) (S : FnScope N ps scope)
    (len : ∀ vs H Q E, sp vs H Q E → vs.length = ps.length)
    (hbody : ∀ (A : Around) (outer : List Env) (s : Shared) (H : Hp) (vs : List V) (Q : VK) (E : XK), Room k (A.deeper (envOfC qual scope s.heap.objs.size f cdv)) → sp vs H Q E →
      ∃ t, PSs (cxOf CX P w K mg base N qual scope f cdv A outer s H E) body t ∧ t { nx := fun _ H' => Q .non H', rt := Q } (start N vs) H) :
    FnOk P w K mg base CX (k + 1) f (PySem.W.fnOf name qual params body scope dV kV doc pm an cdv ct) ps sp := by
  refine ⟨len, fun A outer s H args us vs Q E hr e0 hb r hsp => ?_⟩
  have hl := len _ _ _ _ hsp
  have KX : K.In s.heap := e0.mod.kin.keeps fun b o e => (e0.bs b o e).1
  have lim : s.heap.NoLimit := e0.mod.nolimit.keeps fun b o e => (e0.bs b o e).1
  have hkind : ∀ y ∈ ps.zip us, scope.names.lookup y.1 = some .local ∨ (scope.names.lookup y.1 = some .cell ∧ ((cellsFrom (s.heap.objs.size + 1) scope.names []).lookup y.1).isSome = true) := fun ⟨n, v⟩ hy => by
    rcases S.par n (List.of_mem_zip hy).1 with q | q
    · exact .inl q
    · exact .inr ⟨q, PySem.W.cellsFrom_some _ _ _ (.inl q)⟩
  refine codeAny_call_function hr.depth (KX _ _ lk) rfl S.co S.gen rfl (PySem.W.codeRec_of KX hcd) (hb _ _ _ _ ?_)
  refine wpAny_newFunctionEnv_cells S.kind hkind fun env he s1 x => ?_
  subst he
  refine ⟨lim.keeps x.toInCall.keep, codeAny_func ?_⟩
  obtain ⟨t, ht, hq⟩ := hbody A outer s H vs Q E (hr.deeper _) hsp
  have I : Inv (cxOf CX P w K mg base N qual scope f cdv A outer s H E) [] (start N vs) H s1 := inv_start S hr.hd e0 hl r x
  refine wpAny_mono (ht [] s1 (start N vs) H _ I hq) (fun fl s' hs => ?_) fun e s' hs => hs
  have fin : ∀ {σ' : St} {H' : Hp} {v : V} {u : Value}, Inv (cxOf CX P w K mg base N qual scope f cdv A outer s H E) [] σ' H' s' → RelV v u → Q v H' → CE outer P w H s Q u s' :=
    fun {σ' H' v u} J rv q => ⟨v, H', J.os, J.bare, J.base, J.hok, rv, q⟩
  cases fl with
  | ret u =>
    obtain ⟨v, σ', H', J, rv, q⟩ := hs
    exact fin J rv q
  | next =>
    obtain ⟨σ', H', J, q⟩ := hs
    exact fin (v := V.non) (u := Value.none) J rfl q
  | brk =>
    obtain ⟨_, _, _, q⟩ := hs
    exact False.elim q
  | cont =>
    obtain ⟨_, _, _, q⟩ := hs
    exact False.elim q
end L2
namespace L2
open PySem PySem.Spec PyProof.Rows
section
variable {X : Cx} {x : Str} {p pos : Pos} {e : Expr} {es : List Expr} {t : TA} {id T : String} {r : List V → Hp → VK → Prop}
def tCB (r : List V → Hp → VK → Prop) (t : TA) : TE := fun σ H Q => t σ H fun vs H1 => r vs H1 Q
theorem pe_callB (hc : CallR X (.builtin id) r) (hg : Gl X x) (hm : X.mg x = none) (hv : bootBuiltins x = some (.builtin id)) (ha : PA X (e :: es) t) (hn : x ≠ "__name__" := by decide) (hdb : (x == ("__debug__" : Str)) = false := by decide)
    (he : starEach (e :: es) X.env = (false, eval e X.env) :: starEach es X.env := by rfl) (hpl : (backTo pos (starEach es X.env)).any (·.1) = false := by rfl) : PE X (.Call (.Name x p) (e :: es) [] pos) (tCB r t) := by
  intro pins s σ H Q I h
  refine wpAny_Call_Name_kw (ld_blt I hg hm hv ?_ hn hdb)
  exact PyProof.Rows.callWith_builtin1 (thn (ha pos pins s σ H _ I h) fun us s1 ⟨vs, H1, I1, r1, q1⟩ => hc pins s1 σ H1 vs us Q I1 r1 q1) he hpl
theorem pe_callTy (hc : CallR X (.type T) r) (hg : Gl X x) (hm : X.mg x = none) (hv : bootBuiltins x = some (.type T)) (ha : PA X (e :: es) t) (hn : x ≠ "__name__" := by decide) (hdb : (x == ("__debug__" : Str)) = false := by decide)
    (he : starEach (e :: es) X.env = (false, eval e X.env) :: starEach es X.env := by rfl) (hpl : (backTo pos (starEach es X.env)).any (·.1) = false := by rfl) : PE X (.Call (.Name x p) (e :: es) [] pos) (tCB r t) := by
  intro pins s σ H Q I h
  refine wpAny_Call_Name_kw (ld_blt I hg hm hv ?_ hn hdb)
  exact PyProof.Rows.callWith_type1 (thn (ha pos pins s σ H _ I h) fun us s1 ⟨vs, H1, I1, r1, q1⟩ => hc pins s1 σ H1 vs us Q I1 r1 q1) he hpl
theorem pe_callTy0 (hc : CallR X (.type T) r) (hg : Gl X x) (hm : X.mg x = none) (hv : bootBuiltins x = some (.type T)) (hn : x ≠ "__name__" := by decide) (hdb : (x == ("__debug__" : Str)) = false := by decide) :
    PE X (.Call (.Name x p) [] [] pos) (tCB r tNil) := by
  intro pins s σ H Q I h
  refine wpAny_Call_Name_kw (ld_blt I hg hm hv ?_ hn hdb)
  exact PyProof.Rows.callWith_type0 (hc pins s σ H [] [] Q I .nil h)
end
end L2
namespace HT
open PySem PyProof.Rows
def lexLt : List Int → List Int → Bool
  | [], [] => false
  | [], _ :: _ => true
  | _ :: _, [] => false
  | x :: xs, y :: ys => if x = y then lexLt xs ys else decide (x < y)
theorem lexLt_cons (x y : Int) (xs ys : List Int) : lexLt (x :: xs) (y :: ys) = if x = y then lexLt xs ys else decide (x < y) := rfl
theorem lexLt_nil_nil : lexLt [] [] = false := rfl
theorem lexLt_nil_cons (y : Int) (ys : List Int) : lexLt [] (y :: ys) = true := rfl
theorem lexLt_cons_nil (x : Int) (xs : List Int) : lexLt (x :: xs) [] = false := rfl
theorem eqAt_int (A : Around) (s : Shared) (a : Int) (t : Tok) (c : Int) (u : Tok) : ∃ e, SeqAt.EqAt A s (.int a t) (.int c u) e ∧ (e = true ↔ a = c) :=
  ⟨(a == c), SeqAt.EqAt.int_int a t c u, by simp⟩
theorem rcLt_int (A : Around) (s : Shared) (a : Int) (t : Tok) (c : Int) (u : Tok) (prog : Program) (w : World) (E : Value → Shared → Prop) (Q : Value → Shared → Prop) (h : Q (.bool (decide (a < c))) s) :
    wpAny (model prog w) A (richCompare .Lt (.int a t) (.int c u)) Q E s :=
  (PyProof.Rows.lt_int h : wpAny (model prog w) A (compareOp .Lt (.int a t) (.int c u)) Q E s)
section
open PySem.SeqAt
open PySem.AutoSeq1 (wpAny_loadPart')
open PySem.MeetsSeq PySem.MeetsSeq2 PySem.MeetsSeq3
theorem tuple_lt_ints (l b : Addr) (items items2 : Array Value) (n n2 : Nat) (dd dd2 : Option Addr) (sl sl2 : Array (Option Value)) (ns ms : List Int) (hi : IntsAre items.toList ns) (hj : IntsAre items2.toList ms) :
    Meets (Builtin.«tuple.__lt__» ⟨[.ref l, .ref b], []⟩)
      (fun _ R s => s.heap.get? l = some { cls := .type "tuple", dict := dd, data := .seq items n, slots := sl } ∧ s.heap.get? b = some { cls := .type "tuple", dict := dd2, data := .seq items2 n2, slots := sl2 } ∧
        R (.ok (.ret (.bool (lexLt ns ms)))) s) :=
  .of_wp fun prog w A R s h => by
    obtain ⟨hp, g, d, tk, os⟩ := s; obtain ⟨hl, hb, h⟩ := h
    have f2 := AutoSeq1.sub_tuple_tuple
    have z1 : items.size = ns.length := by rw [← hi.length]; simp
    have z2 : items2.size = ms.length := by rw [← hj.length]; simp
    wp_walk using wpAny_loadPart' hl, wpAny_loadPart' hb, wpAny_forIn_list _ (fun rest b s' => b.1 = none ∧ s' = ⟨hp, g, d, tk, os⟩ ∧ ∃ (vs ws : List Value) (ns' ms' : List Int), rest = vs.zip ws ∧
      IntsAre vs ns' ∧ IntsAre ws ms' ∧ ns'.length + items2.size = ms'.length + items.size ∧ R (.ok (.ret (.bool (lexLt ns' ms')))) ⟨hp, g, d, tk, os⟩) _
    case turn =>
      rintro ⟨y, x⟩ rest b s' ⟨hb', rfl, vs, ws, ns', ms', hz, hvi, hwi, hlen, hR⟩
      cases hvi with
      | nil => rw [List.zip_nil_left] at hz; cases hz
      | cons a t hvi' =>
        cases hwi with
        | nil => rw [List.zip_nil_right] at hz; cases hz
        | cons c u hwi' =>
          rw [List.zip_cons_cons] at hz
          injection hz with hyx hrest
          injection hyx with hy hx
          subst hy hx
          rw [lexLt_cons] at hR
          simp only [List.length_cons] at hlen
          obtain ⟨e, he, hiff⟩ := eqAt_int A.in1 ⟨hp, g, d, tk, os⟩ a t c u
          refine wpAny_bind (he prog w _ _ ?_)
          cases e with
          | true =>
            rw [if_pos (hiff.mp rfl)] at hR
            wp_walk
            exact ⟨rfl, rfl, _, _, _, _, hrest, hvi', hwi', by omega, hR⟩
          | false =>
            rw [if_neg (fun q => absurd (hiff.mpr q) Bool.false_ne_true)] at hR
            have hri := rcLt_int A.in1 ⟨hp, g, d, tk, os⟩ a t c u prog w
            wp_walk using hri
            exact ⟨_, rfl, by simpa using hR⟩
    case fin =>
      rintro ⟨b1, b2⟩ s' ⟨hb', rfl, vs, ws, ns', ms', hz, hvi, hwi, hlen, hR⟩
      simp only at hb'
      subst hb'
      have hv : lexLt ns' ms' = decide (items.size < items2.size) := by
        cases hvi with
        | nil =>
          cases hwi with
          | nil =>
            simp only [List.length_nil] at hlen
            rw [lexLt_nil_nil]
            exact (decide_eq_false (by omega)).symm
          | cons c u hw =>
            simp only [List.length_nil, List.length_cons] at hlen
            rw [lexLt_nil_cons]
            exact (decide_eq_true (by omega)).symm
        | cons a t hv =>
          cases hwi with
          | nil =>
            simp only [List.length_nil, List.length_cons] at hlen
            rw [lexLt_cons_nil]
            exact (decide_eq_false (by omega)).symm
          | cons c u hw =>
            rw [List.zip_cons_cons] at hz
            cases hz
      rw [hv] at hR
      wp_walk
      exact ⟨_, rfl, by simpa [Builtin.Tuple.tupleCompareSizes] using hR⟩
    case h =>
      exact ⟨rfl, rfl, items.toList, items2.toList, ns, ms, rfl, hi, hj, by omega, h⟩
end
section
variable {prog : Program} {w : World} {A : Around} {E : Value → Shared → Prop} {s : Shared}
theorem lt_tupInts {l b : Addr} {items items2 : Array Value} {ns ms : List Int} {Q : Value → Shared → Prop} (hl : IsTup s.heap l items) (hb : IsTup s.heap b items2) (hi : IntsAre items.toList ns) (hj : IntsAre items2.toList ms)
    (hu : A.units < cLine) (h : Q (.bool (lexLt ns ms)) s) : wpAny (model prog w) A (compareOp .Lt (.ref l) (.ref b)) Q E s := by
  obtain ⟨⟨cls, dd, data, sl⟩, ho, hc, n, hd⟩ := id hl
  obtain ⟨⟨cls2, dd2, data2, sl2⟩, ho2, hc2, n2, hd2⟩ := id hb
  simp only at hc hd hc2 hd2
  subst hc hd hc2 hd2
  exact richCompare_meets_room (op := .Lt) ⟨_, ho, rfl⟩ ⟨_, ho2, rfl⟩ PySem.F.slot_tuple_lt PySem.F.entry_tuple_lt (PySem.F.args_tuple_lt_2 _ _) (tuple_lt_ints l b items items2 n n2 dd dd2 sl sl2 ns ms hi hj)
    ⟨ho, ho2, show Value.bool (lexLt ns ms) ≠ Value.notImplemented ∧ Q (.bool (lexLt ns ms)) s from ⟨(fun x => nomatch x), h⟩⟩ hu
theorem cat_tup {t b : Addr} {vs ws : List Value} {Q : Value → Shared → Prop} (ht : IsTup s.heap t vs.toArray) (hb : IsTup s.heap b ws.toArray) (hv : vs ≠ [])
    (h1 : ws = [] → Q (.ref t) s) (h2 : ws ≠ [] → Q (.ref s.heap.objs.size) { s with heap := s.heap.push { cls := .type "tuple", data := .seq (vs ++ ws).toArray } })
    (hsz : vs.length + ws.length ≤ sizeLine) : wpAny (model prog w) A (binaryOp .Add (.ref t) (.ref b)) Q E s := by
  obtain ⟨⟨cls, dd, data, sl⟩, ho, hc, n, hd⟩ := id ht
  obtain ⟨⟨cls2, dd2, data2, sl2⟩, ho2, hc2, n2, hd2⟩ := id hb
  simp only at hc hd hc2 hd2
  subst hc hd hc2 hd2
  have e : vs.toArray ++ ws.toArray = (vs ++ ws).toArray := by simp
  by_cases hw : ws = []
  · exact concat_meets ⟨_, ho, rfl⟩ ⟨_, ho2, rfl⟩ noFill_tuple_add seq_tuple_add PySem.F.slot_tuple_add PySem.F.entry_tuple_add (PySem.F.args_tuple_add_2 _ _)
      (tuple_addW1 t b vs.toArray ws.toArray n n2 dd dd2 sl sl2 (by simpa using hv) (by simp [hw])) ⟨ho, ho2, h1 hw⟩
  · refine concat_meets ⟨_, ho, rfl⟩ ⟨_, ho2, rfl⟩ noFill_tuple_add seq_tuple_add PySem.F.slot_tuple_add PySem.F.entry_tuple_add (PySem.F.args_tuple_add_2 _ _)
      (tuple_addW2 t b vs.toArray ws.toArray n n2 dd dd2 sl sl2 (by simpa using hv) (by simpa using hw) (by rw [List.size_toArray, List.size_toArray]; exact hsz)) ⟨ho, ho2, ?_⟩
    rw [e]
    exact h2 hw
def sIx (n d : Nat) : Option Int → Nat
  | none => d
  | some v => if v < 0 then (v + (n : Int)).toNat else min v.toNat n
theorem sIx_none (n d : Nat) : sIx n d none = d := rfl
theorem sIx_nat (n d k : Nat) : sIx n d (some (k : Int)) = min k n := by
  show (if (k : Int) < 0 then ((k : Int) + (n : Int)).toNat else min (k : Int).toNat n) = min k n
  rw [if_neg (by omega), Int.toNat_natCast]
theorem sIx_le (n d : Nat) (hd : d ≤ n) (o : Option Int) : sIx n d o ≤ n := by
  cases o with
  | none => exact hd
  | some v =>
    show (if v < 0 then (v + (n : Int)).toNat else min v.toNat n) ≤ n
    by_cases hv : v < 0
    · rw [if_pos hv]; omega
    · rw [if_neg hv]; exact Nat.min_le_right _ _
theorem clip_eq (v : Int) (n d : Nat) : (if v < 0 then max (v + (n : Int)) 0 else min v (n : Int)) = ((sIx n d (some v) : Nat) : Int) := by
  show (if v < 0 then max (v + (n : Int)) 0 else min v (n : Int)) = (((if v < 0 then (v + (n : Int)).toNat else min v.toNat n) : Nat) : Int)
  by_cases hv : v < 0
  · simp only [if_pos hv]; omega
  · simp only [if_neg hv]; omega
theorem adjust_gen (lo hi : Option Int) (n : Nat) : Builtin.Slice.sliceAdjust lo hi 1 (n : Int) = (((sIx n 0 lo : Nat) : Int), ((sIx n n hi : Nat) : Int)) := by
  have h1 : ¬ ((1 : Int) < 0) := by omega
  unfold Builtin.Slice.sliceAdjust
  simp only [h1, if_false]
  refine Prod.ext ?_ ?_
  · cases lo with
    | none => rfl
    | some v => exact clip_eq v n 0
  · cases hi with
    | none => rfl
    | some v => exact clip_eq v n n
theorem places_gen (i j : Nat) : Builtin.Slice.slicePlaces (i : Int) (j : Int) 1 = j - i := by
  unfold Builtin.Slice.slicePlaces
  have h1 : (1 : Int) > 0 := by omega
  simp only [h1, if_true, Int.ediv_one]
  split <;> omega
theorem slicePart_ {v : Value} {o : Option Int} {Q : Option Int → Shared → Prop} (p : IsPart v o) (h : Q o s) : wpAny (model prog w) A (Builtin.Slice.slicePartIndex v) Q E s := by
  cases p with
  | none => exact slicePart_none h
  | int i t => exact slicePart_int h
theorem sliceApplied_gen {sl : Addr} {vl vu : Value} {lo hi : Option Int} {n : Nat} {Q : Int × Int × Nat → Shared → Prop} (hs : s.heap.IsSliceOf sl vl vu .none) (pl : IsPart vl lo) (pu : IsPart vu hi)
    (h : Q (((sIx n 0 lo : Nat) : Int), 1, sIx n n hi - sIx n 0 lo) s) : wpAny (model prog w) A (Builtin.Slice.sliceApplied (.ref sl) (pure (n : Int))) Q E s := by
  obtain ⟨os, hos, hcs, hds⟩ := id hs
  unfold Builtin.Slice.sliceApplied Builtin.Slice.sliceFields
  refine wpAny_bind (wpAny_bind (wpAny_field hos hds (x := vl) rfl (wpAny_bind (wpAny_field hos hds (x := vu) rfl (wpAny_bind (wpAny_field hos hds (x := .none) rfl (wpAny_pure ?_)))))))
  refine wpAny_bind (slicePart_none ?_)
  show wpAny _ _ (if ((1 : Int) == 0) = true then _ else _) _ _ s
  rw [if_neg (by decide)]
  refine wpAny_bind (slicePart_ pl (wpAny_bind (slicePart_ pu (wpAny_bind (wpAny_pure ?_)))))
  show wpAny _ _ (match Builtin.Slice.sliceAdjust lo hi 1 (n : Int) with | (lo, hi) => pure (lo, (1 : Int), Builtin.Slice.slicePlaces lo hi 1)) _ _ s
  rw [adjust_gen lo hi n]
  show wpAny _ _ (pure (((sIx n 0 lo : Nat) : Int), (1 : Int), Builtin.Slice.slicePlaces ((sIx n 0 lo : Nat) : Int) ((sIx n n hi : Nat) : Int) 1)) _ _ s
  rw [places_gen]
  exact wpAny_pure h
theorem pick_gen (xs : Array Value) (i k : Nat) : ((List.range k).filterMap fun (m : Nat) => xs[((i : Int) + (m : Int) * 1).toNat]?).toArray = ((xs.toList.drop i).take k).toArray := by
  have e : (fun (m : Nat) => xs[((i : Int) + (m : Int) * 1).toNat]?) = fun m => xs[i + m]? := by
    funext m
    have : ((i : Int) + (m : Int) * 1).toNat = i + m := by omega
    rw [this]
  rw [e]
  have := pick_run xs i k
  rw [List.filterMap_map] at this
  have e2 : ((fun x => xs[x]?) ∘ fun x => i + x) = fun m => xs[i + m]? := rfl
  rw [e2] at this
  rw [this]
theorem getItem_tuple_cut {t sl : Addr} {items : Array Value} {vl vu : Value} {lo hi : Option Int} {Q : Value → Shared → Prop} (ht : IsTup s.heap t items) (hs : s.heap.IsSliceOf sl vl vu .none) (pl : IsPart vl lo) (pu : IsPart vu hi)
    (hw : ¬ (sIx items.size 0 lo = 0 ∧ sIx items.size items.size hi = items.size))
    (h : Q (.ref s.heap.objs.size) { s with heap := s.heap.push { cls := .type "tuple", data := .seq ((items.toList.drop (sIx items.size 0 lo)).take (sIx items.size items.size hi - sIx items.size 0 lo)).toArray } })
    (hsz : items.size ≤ sizeLine) : wpAny (model prog w) A (getItem (.ref t) (.ref sl)) Q E s := by
  have htake : sizeOk (.seq ((items.toList.drop (sIx items.size 0 lo)).take (sIx items.size items.size hi - sIx items.size 0 lo)).toArray) := by
    show ((items.toList.drop (sIx items.size 0 lo)).take (sIx items.size items.size hi - sIx items.size 0 lo)).toArray.size ≤ sizeLine
    rw [List.size_toArray, List.length_take, List.length_drop, Array.length_toList]
    omega
  have hj : sIx items.size items.size hi ≤ items.size := sIx_le _ _ (Nat.le_refl _) hi
  obtain ⟨os, hos, hcs, hds⟩ := id hs
  have hTs : s.TypeIs (.ref sl) "slice" := ⟨os, hos, hcs⟩
  unfold getItem
  try with_reducible refine wpAny_holding ?_
  first | refine wpAny_bind (wpAny_pure ?_) | skip
  refine wpAny_bind (wpAny_sequenceKey ht.typeIs (by decide) ?_)
  refine wpAny_bind (wpAny_callSpecial?_slot (name := Str.ofString "__getitem__") ht.typeIs PyProof.Rows.slot_tuple_getitem
    (wpAny_call_entry PyProof.Rows.slot_tuple_getitem ht.typeIs entry_tuple_getitem ?_ (args_tuple_getitem _ _)))
  show wpAny _ _ (Builtin.Tuple.tupleItemsOf (.ref t) >>= _) _ _ s
  refine wpAny_bind (tupleItemsOf_ ht ?_)
  refine wpAny_bind (wpAny_typeOf hTs ?_)
  rw [if_pos (by decide)]
  refine wpAny_bind (sliceApplied_gen hs pl pu ?_)
  have hno : ¬ ((((sIx items.size 0 lo : Nat) : Int) == 0 && (1 : Int) == 1 && (sIx items.size items.size hi - sIx items.size 0 lo) == items.size) = true) := by
    intro q
    rw [Bool.and_eq_true, Bool.and_eq_true] at q
    have q1 : ((sIx items.size 0 lo : Nat) : Int) = 0 := eq_of_beq q.1.1
    have q2 : sIx items.size items.size hi - sIx items.size 0 lo = items.size := eq_of_beq q.2
    exact hw ⟨by omega, by omega⟩
  show wpAny _ _ (if (((sIx items.size 0 lo : Nat) : Int) == 0 && (1 : Int) == 1 && (sIx items.size items.size hi - sIx items.size 0 lo) == items.size) = true then _ else _) _ _ s
  rw [if_neg hno, pick_gen]
  first
    | exact wpAny_bind (m := Builtin.Tuple.tupleExact _) (wpAny_newObj_type (wpAny_pure ⟨_, rfl, wpAny_pure h⟩) htake)
    | exact wpAny_bind (m := Builtin.Tuple.tupleExact _) (wpAny_newObj_type (wpAny_bind (wpAny_pure (wpAny_pure ⟨_, rfl, wpAny_pure h⟩))) htake)
    | exact wpAny_bind (wpAny_bind (m := Builtin.Tuple.tupleExact _) (wpAny_newObj_type (wpAny_pure (wpAny_pure ⟨_, rfl, wpAny_pure h⟩)) htake))
    | exact wpAny_bind (wpAny_bind (m := Builtin.Tuple.tupleExact _) (wpAny_newObj_type (wpAny_pure ⟨_, rfl, wpAny_pure h⟩) htake))
end
end HT
namespace L2
open PySem PySem.Spec PyProof.Rows
abbrev TO := St → Hp → (Option Int → Hp → Prop) → Prop
def PO (X : Cx) (e : Option Expr) (t : TO) : Prop :=
  ∀ (pins : List (Addr × Obj)) (s : Shared) (σ : St) (H : Hp) (Q : Option Int → Hp → Prop), Inv X pins σ H s → t σ H Q →
    wpAny (model X.prog X.w) X.A (evalPart e X.env) (fun u s' => ∃ o H', Inv X pins σ H' s' ∧ IsPart u o ∧ Q o H') X.xe s
def tNoPart : TO := fun _ H Q => Q none H
def tPart (t : TE) : TO := fun σ H Q => t σ H fun x H1 => ∃ i, x = .int i ∧ Q (some i) H1
theorem intsAre_of {ns : List Int} : ∀ {us : List Value}, Vals (ns.map V.int) us → IntsAre us ns := by
  induction ns with
  | nil => intro us r; rw [List.map_nil] at r; cases r; exact .nil
  | cons n ns ih =>
    intro us r
    rw [List.map_cons] at r
    cases r with
    | cons r1 r2 =>
      obtain ⟨t, e⟩ := r1
      subst e
      exact .cons n t (ih r2)
section
variable {X : Cx} {e : Expr} {te : TE} {lo hi : Option Expr} {tl th : TO} {pos p2 : Pos}
theorem po_none : PO X none tNoPart := by
  intro pins s σ H Q I h
  rw [evalPart_none]
  exact wpAny_pure ⟨none, H, I, .none, h⟩
theorem po_some (h : PE X e te) : PO X (some e) (tPart te) := by
  intro pins s σ H Q I hw
  rw [evalPart_some]
  refine thn (h pins s σ H _ I hw) fun u s1 ⟨x, H1, I1, r1, q1⟩ => ?_
  obtain ⟨i, rfl, q⟩ := q1
  obtain ⟨t, rfl⟩ := r1
  exact ⟨some i, H1, I1, .int i t, q⟩
def SlR (X : Cx) (r : V → Option Int → Option Int → Hp → VK → Prop) : Prop :=
  ∀ (pins : List (Addr × Obj)) (s : Shared) (σ : St) (H : Hp) (x : V) (v vl vu : Value) (lo hi : Option Int) (sl : Addr) (Q : VK), Inv X pins σ H s → RelV x v → s.heap.IsSliceOf sl vl vu .none → IsPart vl lo → IsPart vu hi → r x lo hi H Q →
    ∃ T id, typeLookup (.type T) "__getitem__" = pure (some (.builtin id)) ∧ s.TypeIs v T ∧ wpAny (model X.prog X.w) X.A (getItem v (.ref sl)) (EP X pins σ Q) X.xe s
theorem SlR.or {r r' : V → Option Int → Option Int → Hp → VK → Prop} (h : SlR X r) (h' : SlR X r') : SlR X (fun x lo hi H Q => r x lo hi H Q ∨ r' x lo hi H Q) := by
  intro pins s σ H x v vl vu lo hi sl Q I rx hs pl pu q
  rcases q with q | q
  · exact h pins s σ H x v vl vu lo hi sl Q I rx hs pl pu q
  · exact h' pins s σ H x v vl vu lo hi sl Q I rx hs pl pu q
def tSl (r : V → Option Int → Option Int → Hp → VK → Prop) (te : TE) (tl th : TO) : TE := fun σ H Q => te σ H fun x H1 => tl σ H1 fun l H2 => th σ H2 fun u H3 => r x l u H3 Q
theorem pe_slice {r : V → Option Int → Option Int → Hp → VK → Prop} (hr : SlR X r) (he : PE X e te) (hl : PO X lo tl) (hu : PO X hi th) : PE X (.Subscript e (.Slice lo hi none p2) pos) (tSl r te tl th) := by
  intro pins s σ H Q I h
  refine Subscript_ (thn (he pins s σ H _ I h) fun v s1 ⟨x, H1, I1, r1, q1⟩ => ?_)
  refine wpAny_Slice (thn (hl pins s1 σ H1 _ I1 q1) fun vl s2 ⟨l, H2, I2, pl, q2⟩ => thn (hu pins s2 σ H2 _ I2 q2) fun vu s3 ⟨u, H3, I3, pu, q3⟩ => ?_)
  rw [evalPart_none]
  refine wpAny_pure ?_
  have I4 : Inv X pins σ H3 { s3 with heap := s3.heap.push { cls := .type "slice", data := .fields #[vl, vu, .none] } } := I3.kept (t' := s3.toks) fun b ob q => Heap.get?_push_of_some _ q
  obtain ⟨T, id, hT, ht, hg⟩ := hr pins { s3 with heap := s3.heap.push { cls := .type "slice", data := .fields #[vl, vu, .none] } } σ H3 x v vl vu l u s3.heap.objs.size Q I4 r1 (Heap.IsSliceOf.new ..) pl pu q3
  show wpAny (model X.prog X.w) X.A (subscriptTail e (.Slice lo hi none p2) v (.ref s3.heap.objs.size)) (EP X pins σ Q) X.xe { s3 with heap := s3.heap.push { cls := .type "slice", data := .fields #[vl, vu, .none] } }
  exact tail_any (ops := [.ref s3.heap.objs.size, v]) ht hT hg (by with_unfolding_all rfl)
def cutV (xs : List V) (lo hi : Option Int) : List V := (xs.drop (HT.sIx xs.length 0 lo)).take (HT.sIx xs.length xs.length hi - HT.sIx xs.length 0 lo)
theorem cutV_length (xs : List V) (lo hi : Option Int) : (cutV xs lo hi).length ≤ xs.length := by
  unfold cutV
  rw [List.length_take, List.length_drop]
  omega
def rSlT (K : PySem.W.Frag) : V → Option Int → Option Int → Hp → VK → Prop := fun x lo hi H Q => ∃ a xs, x = .ref a ∧ SqT K H a xs ∧
  ¬ (HT.sIx xs.length 0 lo = 0 ∧ HT.sIx xs.length xs.length hi = xs.length) ∧ ∀ p, H p = none → Q (.ref p) (upd H p (.tup (cutV xs lo hi)))
theorem sl_tup : SlR X (rSlT X.K) := by
  intro pins s σ H x v vl vu lo hi sl Q I rx hs pl pu h
  obtain ⟨a, xs, rfl, hx, hw, q⟩ := h
  cases rx
  obtain ⟨its, r, ht, hz⟩ := I.tuple hx
  have hlen : its.toArray.size = xs.length := by rw [List.size_toArray]; exact r.length.symm
  refine ⟨"tuple", _, PyProof.Rows.slot_tuple_getitem.lookup, ht.typeIs, ?_⟩
  refine HT.getItem_tuple_cut ht hs pl pu (by rw [hlen]; exact hw) ?_ (by rw [hlen]; exact hz)
  rw [hlen]
  refine ⟨.ref s.heap.objs.size, _, I.laid (t' := s.toks) (o := .tup (cutV xs lo hi)) (fun b ob q => Heap.get?_push_of_some _ q) (Nat.le_refl _) ?_, rfl, q _ (I.hok.fresh (Nat.le_refl _))⟩
  exact ⟨Nat.le_trans (cutV_length xs lo hi) hz, _, (r.drop (HT.sIx xs.length 0 lo)).take (HT.sIx xs.length xs.length hi - HT.sIx xs.length 0 lo), PlainT.new _ _⟩
def rLtT (K : PySem.W.Frag) : R2 := fun x y H Q => ∃ a b ns ms, x = .ref a ∧ y = .ref b ∧ SqT K H a (ns.map V.int) ∧ SqT K H b (ms.map V.int) ∧ Q (.bl (HT.lexLt ns ms)) H
theorem op_ltT (hu : X.A.units < cLine) : OpR X (compareOp .Lt) (rLtT X.K) := by
  intro pins s σ H x y v u Q I rx ry h
  obtain ⟨a, b, ns, ms, rfl, rfl, ha, hb, q⟩ := h
  cases rx
  cases ry
  obtain ⟨its, r1, p1, _⟩ := I.tuple ha
  obtain ⟨its2, r2, p2, _⟩ := I.tuple hb
  have i1 : IntsAre its.toArray.toList ns := intsAre_of r1
  have i2 : IntsAre its2.toArray.toList ms := intsAre_of r2
  exact HT.lt_tupInts p1 p2 i1 i2 hu ⟨.bl (HT.lexLt ns ms), H, I, rfl, q⟩
def rCatT (K : PySem.W.Frag) : R2 := fun x y H Q => ∃ a b xs ys, x = .ref a ∧ y = .ref b ∧ SqT K H a xs ∧ SqT K H b ys ∧ xs ≠ [] ∧ xs.length + ys.length ≤ sizeLine ∧
  (ys = [] → Q (.ref a) H) ∧ (ys ≠ [] → ∀ p, H p = none → Q (.ref p) (upd H p (.tup (xs ++ ys))))
theorem Vals.nil_iff {xs : List V} {us : List Value} (r : Vals xs us) : us = [] ↔ xs = [] := by
  cases r with
  | nil => simp
  | cons _ _ => simp
theorem op_catT : OpR X (binaryOp .Add) (rCatT X.K) := by
  intro pins s σ H x y v u Q I rx ry h
  obtain ⟨a, b, xs, ys, rfl, rfl, ha, hb, hx, hz, q1, q2⟩ := h
  cases rx
  cases ry
  obtain ⟨its, r1, p1, _⟩ := I.tuple ha
  obtain ⟨its2, r2, p2, _⟩ := I.tuple hb
  refine HT.cat_tup p1 p2 (fun z => hx (r1.nil_iff.mp z)) (fun z => ⟨.ref a, H, I, rfl, q1 (r2.nil_iff.mp z)⟩) (fun z => ?_) (by rw [← r1.length, ← r2.length]; exact hz)
  refine ⟨.ref s.heap.objs.size, _, I.laid (t' := s.toks) (o := .tup (xs ++ ys)) (fun b ob q => Heap.get?_push_of_some _ q) (Nat.le_refl _) ?_, rfl, q2 (fun w => z (r2.nil_iff.mpr w)) _ (I.hok.fresh (Nat.le_refl _))⟩
  exact ⟨by rw [List.length_append]; exact hz, _, r1.append r2, PlainT.new _ _⟩
theorem call_tupleT : CallR X (.type "tuple") (fun xs H Q => ∃ a ys, xs = [.ref a] ∧ SqT X.K H a ys ∧ Q (.ref a) H) := by
  intro pins s σ H xs us Q I r h
  obtain ⟨a, ys, rfl, ha, q⟩ := h
  obtain ⟨u, rfl, ru⟩ := vals1 r
  cases ru
  obtain ⟨its, _, p1, _⟩ := I.tuple ha
  exact call_tuple_same (items := its.toArray) p1 ⟨.ref a, H, I, rfl, q⟩
end
end L2
namespace L2
open PySem PySem.Spec PyProof.Rows
def ixN (n : Nat) (i : Int) : Option Nat := if 0 ≤ i then (if i < n then some i.toNat else none) else if -(n : Int) ≤ i then some (i + n).toNat else none
def atI {α : Type} (xs : List α) (i : Int) : Option α := (ixN xs.length i).bind fun j => xs[j]?
theorem ixN_seq {n : Nat} {i : Int} {j : Nat} (h : ixN n i = some j) : seqIndex? i n = some j ∧ j < n ∧ -(n : Int) ≤ i ∧ i < n := by
  unfold ixN at h
  by_cases h0 : 0 ≤ i
  · rw [if_pos h0] at h
    by_cases h1 : i < n
    · rw [if_pos h1] at h
      have e : i.toNat = j := Option.some.inj h
      exact ⟨by rw [seqIndex_of h0 h1, e], by omega, by omega, h1⟩
    · rw [if_neg h1] at h; cases h
  · rw [if_neg h0] at h
    by_cases h1 : -(n : Int) ≤ i
    · rw [if_pos h1] at h
      have e : (i + n).toNat = j := Option.some.inj h
      exact ⟨by rw [seqIndex_neg (by omega) h1, e], by omega, h1, by omega⟩
    · rw [if_neg h1] at h; cases h
theorem atI_get {α : Type} {xs : List α} {i : Int} {v : α} (h : atI xs i = some v) : ∃ j, seqIndex? i xs.length = some j ∧ xs[j]? = some v ∧ j < xs.length ∧ -(xs.length : Int) ≤ i ∧ i < xs.length := by
  unfold atI at h
  cases e : ixN xs.length i with
  | none => rw [e] at h; cases h
  | some j =>
    rw [e] at h
    obtain ⟨h1, h2, h3, h4⟩ := ixN_seq e
    exact ⟨j, h1, h, h2, h3, h4⟩
theorem atI_nat {α : Type} {xs : List α} {j : Nat} {v : α} (h : xs[j]? = some v) : atI xs (j : Int) = some v := by
  have hj : j < xs.length := (List.getElem?_eq_some_iff.mp h).1
  have e : ixN xs.length (j : Int) = some j := by
    unfold ixN
    rw [if_pos (by omega), if_pos (by omega)]; simp
  unfold atI; rw [e]; exact h
theorem atI_last {α : Type} (xs : List α) (v : α) : atI (xs ++ [v]) (-1) = some v := by
  have hl : (xs ++ [v]).length = xs.length + 1 := by simp
  have e : ixN (xs ++ [v]).length (-1) = some xs.length := by
    unfold ixN
    rw [hl, if_neg (by decide), if_pos (by omega)]
    congr 1
    omega
  unfold atI
  rw [e]
  show (xs ++ [v])[xs.length]? = some v
  simp
def PlainIx (b : Expr) : Prop := ∀ o i, subscripted b false o i = operate [o, i] (getItem o i)
def IxR (X : Cx) (r : R2) : Prop :=
  ∀ (value slice : Expr) (pins : List (Addr × Obj)) (s : Shared) (σ : St) (H : Hp) (x y : V) (v u : Value) (Q : VK), Inv X pins σ H s → RelV x v → RelV y u → r x y H Q →
    subscripted slice false v u = operate [v, u] (getItem v u) → wpAny (model X.prog X.w) X.A (subscriptTail value slice v u) (EP X pins σ Q) X.xe s
def MtR (X : Cx) (id : String) (r : V → List V → Hp → VK → Prop) : Prop :=
  ∀ (pins : List (Addr × Obj)) (s : Shared) (σ : St) (H : Hp) (x : V) (xs : List V) (v : Value) (us : List Value) (Q : VK), Inv X pins σ H s → RelV x v → Vals xs us → r x xs H Q →
    wpAny (model X.prog X.w) X.A (call (.builtin id) (v :: us)) (EP X pins σ Q) X.xe s
section
variable {X : Cx} {a b : Expr} {ta tb : TE} {pos : Pos}
theorem IxR.or {r r' : R2} (h : IxR X r) (h' : IxR X r') : IxR X (fun x y H Q => r x y H Q ∨ r' x y H Q) := by
  intro value slice pins s σ H x y v u Q I rx ry q hs
  rcases q with q | q
  · exact h value slice pins s σ H x y v u Q I rx ry q hs
  · exact h' value slice pins s σ H x y v u Q I rx ry q hs
theorem MtR.or {id : String} {r r' : V → List V → Hp → VK → Prop} (h : MtR X id r) (h' : MtR X id r') : MtR X id (fun x xs H Q => r x xs H Q ∨ r' x xs H Q) := by
  intro pins s σ H x xs v us Q I rx rs q
  rcases q with q | q
  · exact h pins s σ H x xs v us Q I rx rs q
  · exact h' pins s σ H x xs v us Q I rx rs q
theorem pe_ix {r : R2} (hr : IxR X r) (ha : PE X a ta) (hb : PE X b tb) (hs : PlainIx b) : PE X (.Subscript a b pos) (tOp r ta tb) := by
  intro pins s σ H Q I h
  exact Subscript_ (binT ha hb I h fun v u s2 x y H2 I2 rx ry q => hr a b pins s2 σ H2 x y v u Q I2 rx ry q (hs _ _))
def rIxL (K : PySem.W.Frag) : R2 := fun x y H Q => ∃ p xs i v, x = .ref p ∧ y = .int i ∧ SqL K H p xs ∧ atI xs i = some v ∧ Q v H
def rIxT (K : PySem.W.Frag) : R2 := fun x y H Q => ∃ p xs i v, x = .ref p ∧ y = .int i ∧ SqT K H p xs ∧ atI xs i = some v ∧ Q v H
def rIxS : R2 := fun x y H Q => ∃ z i c, x = .str z ∧ y = .int i ∧ z.length ≤ sizeLine ∧ atI z.cps.toList i = some c ∧ Q (.str ⟨#[c]⟩) H
theorem ix_list : IxR X (rIxL X.K) := by
  intro value slice pins s σ H x y v u Q I rx ry h hs
  obtain ⟨p, xs, i, z, rfl, rfl, hq, he, q⟩ := h
  cases rx
  obtain ⟨t, rfl⟩ := ry
  obtain ⟨its, r, pl, hz⟩ := I.list hq
  obtain ⟨j, h1, h2, h3, h4, h5⟩ := atI_get he
  obtain ⟨w, ew, rw'⟩ := r.get h2
  have hl := r.length
  have hn := line63
  have fin : EP X pins σ Q w s := ⟨z, H, I, rw', q⟩
  by_cases h0 : 0 ≤ i
  · have hj : i.toNat = j := by
      rw [seqIndex_of h0 h5] at h1
      exact Option.some.inj h1
    exact item_listR pl.isList h0 (by omega) (by rw [hj]; simpa using ew) fin hs
  · have hj : (i + (its.toArray.size : Int)).toNat = j := by
      rw [seqIndex_neg (by omega) h4] at h1
      rw [List.size_toArray, ← hl]
      exact Option.some.inj h1
    exact subscriptTail_builtinR (x := w) pl.isList.typeIs slot_list_getitem.lookup
      (wpAny_getItem_list_neg (Q := fun r s' => r = w ∧ EP X pins σ Q r s') pl.isList (by omega) (by rw [List.size_toArray] <;> omega) (by omega) (by rw [hj]; simpa using ew) ⟨rfl, fin⟩) hs
theorem ix_tup : IxR X (rIxT X.K) := by
  intro value slice pins s σ H x y v u Q I rx ry h hs
  obtain ⟨p, xs, i, z, rfl, rfl, hq, he, q⟩ := h
  cases rx
  obtain ⟨t, rfl⟩ := ry
  obtain ⟨its, r, pl, hz⟩ := I.tuple hq
  obtain ⟨j, h1, h2, h3, h4, h5⟩ := atI_get he
  obtain ⟨w, ew, rw'⟩ := r.get h2
  have hl := r.length
  have hn := line63
  have fin : EP X pins σ Q w s := ⟨z, H, I, rw', q⟩
  exact subscriptTail_builtinR (x := w) pl.typeIs slot_tuple_getitem.lookup
    (getItem_tuple (j := j) (Q := fun r s' => r = w ∧ EP X pins σ Q r s') pl (by omega) (by omega) (by rw [List.size_toArray, ← hl]; exact h1) (by simpa using ew) ⟨rfl, fin⟩) hs
theorem ix_str : IxR X rIxS := by
  intro value slice pins s σ H x y v u Q I rx ry h hs
  obtain ⟨z, i, c, rfl, rfl, hz, he, q⟩ := h
  obtain ⟨t, rfl⟩ := rx
  obtain ⟨t', rfl⟩ := ry
  obtain ⟨j, h1, h2, h3, h4, h5⟩ := atI_get he
  have hl : z.cps.toList.length = z.length := by simp [Str.length]
  rw [hl] at h1 h4 h5
  have hn := line63
  exact tail_any (typeIs_str s z t) slot_str_getitem.lookup (getItem_str (c := c) (by
    have e1 : decide (i < -(2 ^ 63 : Int)) = false := decide_eq_false (by omega)
    have e2 : decide (i ≥ 2 ^ 63) = false := decide_eq_false (by omega)
    rw [e1, e2, Bool.or_false]) (by rw [h1]; simpa using h2) ⟨.str ⟨#[c]⟩, H, I.tok _, ⟨_, rfl⟩, q⟩) hs
def rIx (K : PySem.W.Frag) : R2 := fun x y H Q => rIxL K x y H Q ∨ rIxT K x y H Q ∨ rIxS x y H Q
theorem ix_seq : IxR X (rIx X.K) := ix_list.or (ix_tup.or ix_str)
theorem mapSeq_set (its : List Value) (n j : Nat) (u : Value) : Obj.mapSeq (·.setIfInBounds j u) { cls := .type "list", data := .seq its.toArray n } = { cls := .type "list", data := .seq (its.set j u).toArray n } := by
  simp [Obj.mapSeq]
theorem Inv.lst {pins : List (Addr × Obj)} {σ : St} {H : Hp} {s : Shared} {p : Addr} {xs : List V} (I : Inv X pins σ H s) (h : H p = some (.lst xs)) :
    ∃ (its : List Value) (n : Nat), Vals xs its ∧ s.heap.get? p = some { cls := .type "list", data := .seq its.toArray n } ∧ xs.length ≤ sizeLine := by
  obtain ⟨z, its, n, r, e⟩ := I.hok p _ h
  exact ⟨its, n, r, e, z⟩
theorem Inv.lstUpd {pins : List (Addr × Obj)} {σ : St} {H : Hp} {s : Shared} {p : Addr} {xs ys : List V} {its its' : List Value} {n n' : Nat} {f : Obj → Obj} (I : Inv X pins σ H s) (h : H p = some (.lst xs))
    (ho : s.heap.get? p = some { cls := .type "list", data := .seq its.toArray n }) (hf : f { cls := .type "list", data := .seq its.toArray n } = { cls := .type "list", data := .seq its'.toArray n' }) (r : Vals ys its') (hz : ys.length ≤ sizeLine) (t : Nat) :
    Inv X pins σ (upd H p (.lst ys)) { s with heap := s.heap.update p f, toks := t } := by
  have e : (s.heap.update p f).get? p = some { cls := .type "list", data := .seq its'.toArray n' } := by
    rw [Heap.get?_update_self f ho (by rw [hf] <;> rfl), hf]
  refine I.write (x := p) (e := p) (by rw [h]; trivial) (.inl rfl) (fun b u hb q => (Heap.get?_update_other _ _ (Ne.symm hb)).trans q) ⟨_, e⟩ ?_
  exact ⟨hz, its', n', r, e⟩
def rSetL : V → V → V → Hp → (Hp → Prop) → Prop := fun o i v H Q => ∃ p xs k j, o = .ref p ∧ i = .int k ∧ H p = some (.lst xs) ∧ ixN xs.length k = some j ∧ Q (upd H p (.lst (xs.set j v)))
theorem set_list : PSet X rSetL := by
  intro pins s σ H o i v ov iv u Q I ro ri rv h
  obtain ⟨p, xs, k, j, rfl, rfl, hp, hj, q⟩ := h
  cases ro
  obtain ⟨t, rfl⟩ := ri
  obtain ⟨its, n, r, ho, hz⟩ := I.lst hp
  obtain ⟨h1, h2, h3, h4⟩ := ixN_seq hj
  have hl := r.length
  have hn := line63
  have I' : Inv X pins σ (upd H p (.lst (xs.set j v))) { s with heap := s.heap.update p (Obj.mapSeq (·.setIfInBounds j u)) } :=
    I.lstUpd hp ho (mapSeq_set its n j u) (r.set rv j) (by rw [List.length_set]; exact hz) s.toks
  by_cases h0 : 0 ≤ k
  · have hk : k.toNat = j := by
      rw [seqIndex_of h0 h4] at h1
      exact Option.some.inj h1
    exact PySem.W.ki_setAt ho h0 (by omega) (by rw [List.size_toArray, ← hl]; exact h4) (by rw [hk]; exact ⟨_, I', q⟩)
  · have hk : (k + (its.toArray.size : Int)).toNat = j := by
      rw [seqIndex_neg (by omega) h3] at h1
      rw [List.size_toArray, ← hl]
      exact Option.some.inj h1
    exact PySem.W.ki_setBack ho (by omega) (by rw [List.size_toArray, ← hl]; exact h3) (by omega) (by rw [hk]; exact ⟨_, I', q⟩)
theorem slice_bounds (lo hi : Option Int) (n : Nat) : (sliceBounds lo hi none n).1 = ((HT.sIx n 0 lo : Nat) : Int) ∧ (sliceBounds lo hi none n).2.1 = ((HT.sIx n n hi : Nat) : Int) ∧ (sliceBounds lo hi none n).2.2 = 1 := by
  refine ⟨?_, ?_, rfl⟩
  · cases lo with
    | none => simp [sliceBounds, HT.sIx]
    | some i =>
      simp only [sliceBounds, HT.sIx, Option.getD_none, show (1 : Int) > 0 by decide, if_true]
      by_cases h : i < 0
      · simp only [h, if_true] <;> omega
      · simp only [h, if_false] <;> omega
  · cases hi with
    | none => simp [sliceBounds, HT.sIx]
    | some i =>
      simp only [sliceBounds, HT.sIx, Option.getD_none, show (1 : Int) > 0 by decide, if_true]
      by_cases h : i < 0
      · simp only [h, if_true] <;> omega
      · simp only [h, if_false] <;> omega
theorem slicePick_cut (its : List Value) (lo hi : Option Int) : slicePick its.toArray lo hi none = ((its.drop (HT.sIx its.length 0 lo)).take (HT.sIx its.length its.length hi - HT.sIx its.length 0 lo)).toArray := by
  obtain ⟨h1, h2, h3⟩ := slice_bounds lo hi its.toArray.size
  unfold slicePick
  rw [h1, h2, h3]
  simp only [sliceRange_one, pick_run, List.size_toArray] <;> rfl
def rSlL (K : PySem.W.Frag) : V → Option Int → Option Int → Hp → VK → Prop := fun x lo hi H Q => ∃ a xs, x = .ref a ∧ SqL K H a xs ∧ ∀ p, H p = none → Q (.ref p) (upd H p (.lst (cutV xs lo hi)))
theorem sl_list : SlR X (rSlL X.K) := by
  intro pins s σ H x v vl vu lo hi sl Q I rx hs pl pu h
  obtain ⟨a, xs, rfl, hx, q⟩ := h
  cases rx
  obtain ⟨its, r, ht, hz⟩ := I.list hx
  have hlen := r.length
  refine ⟨"list", _, slot_list_getitem.lookup, ht.isList.typeIs, ?_⟩
  refine wpAny_getItem_list_slice ht.isList hs pl pu .none (by simp) ?_ (by rw [List.size_toArray] <;> omega)
  rw [slicePick_cut, ← hlen]
  refine ⟨.ref s.heap.objs.size, _, I.laid (t' := s.toks) (o := .lst (cutV xs lo hi)) (fun b ob q => Heap.get?_push_of_some _ q) (Nat.le_refl _) ?_, rfl, q _ (I.hok.fresh (Nat.le_refl _))⟩
  exact ⟨Nat.le_trans (cutV_length xs lo hi) hz, _, 0, (r.drop (HT.sIx xs.length 0 lo)).take (HT.sIx xs.length xs.length hi - HT.sIx xs.length 0 lo), Heap.get?_push_size _ rfl⟩
def flatV : V → Bool
  | .non => true
  | .bl _ => true
  | .int _ => true
  | .str _ => true
  | _ => false
def eqV : V → V → Bool
  | .non, .non => true
  | .bl a, .bl b => a == b
  | .bl a, .int b => (if a then 1 else 0) == b
  | .int a, .bl b => a == (if b then 1 else 0)
  | .int a, .int b => a == b
  | .str a, .str b => a == b
  | _, _ => false
theorem eqAt_V {A : Around} {s : Shared} {y x : V} {u v : Value} (ry : RelV y u) (rx : RelV x v) (fy : flatV y = true) (fx : flatV x = true) : SeqAt.EqAt A s u v (eqV y x) := by
  cases y with
  | non =>
    cases ry
    cases x with
    | non => cases rx; exact SeqAt.EqAt.same _
    | bl b => cases rx; exact SeqAt.EqAt.none_bool b
    | int b => obtain ⟨t, rfl⟩ := rx; exact SeqAt.EqAt.none_int b t
    | str b => obtain ⟨t, rfl⟩ := rx; exact SeqAt.EqAt.none_str b t
    | _ => exact absurd (show false = true from fx) Bool.false_ne_true
  | bl a =>
    cases ry
    cases x with
    | non => cases rx; exact SeqAt.EqAt.bool_none a
    | bl b => cases rx; exact SeqAt.EqAt.bool_bool a b
    | int b => obtain ⟨t, rfl⟩ := rx; exact SeqAt.EqAt.bool_int a b t
    | str b => obtain ⟨t, rfl⟩ := rx; exact SeqAt.EqAt.bool_str a b t
    | _ => exact absurd (show false = true from fx) Bool.false_ne_true
  | int a =>
    obtain ⟨t', rfl⟩ := ry
    cases x with
    | non => cases rx; exact SeqAt.EqAt.int_none a t'
    | bl b => cases rx; exact SeqAt.EqAt.int_bool a t' b
    | int b => obtain ⟨t, rfl⟩ := rx; exact SeqAt.EqAt.int_int a t' b t
    | str b => obtain ⟨t, rfl⟩ := rx; exact SeqAt.EqAt.int_str a t' b t
    | _ => exact absurd (show false = true from fx) Bool.false_ne_true
  | str a =>
    obtain ⟨t', rfl⟩ := ry
    cases x with
    | non => cases rx; exact SeqAt.EqAt.str_none a t'
    | bl b => cases rx; exact SeqAt.EqAt.str_bool a t' b
    | int b => obtain ⟨t, rfl⟩ := rx; exact SeqAt.EqAt.str_int a t' b t
    | str b => obtain ⟨t, rfl⟩ := rx; exact SeqAt.EqAt.str_str a t' b t
    | _ => exact absurd (show false = true from fx) Bool.false_ne_true
  | _ => exact absurd (show false = true from fy) Bool.false_ne_true
def eqU (x : V) (u : Value) : Bool := match u with
  | .none => eqV .non x
  | .bool b => eqV (.bl b) x
  | .int i _ => eqV (.int i) x
  | .str z _ => eqV (.str z) x
  | _ => false
theorem eqU_of {x y : V} {u : Value} (r : RelV y u) (f : flatV y = true) : eqU x u = eqV y x := by
  cases y with
  | non => cases r; rfl
  | bl b => cases r; rfl
  | int i => obtain ⟨t, rfl⟩ := r; rfl
  | str z => obtain ⟨t, rfl⟩ := r; rfl
  | _ => exact absurd (show false = true from f) Bool.false_ne_true
theorem any_eqU {x : V} : ∀ {xs : List V} {us : List Value}, Vals xs us → xs.all flatV = true → us.any (eqU x) = xs.any fun y => eqV y x
  | _, _, .nil, _ => rfl
  | y :: xs, u :: us, .cons r t, f => by
    rw [List.all_cons, Bool.and_eq_true] at f
    rw [List.any_cons, List.any_cons, eqU_of r f.1, any_eqU t f.2]
theorem mem_eqAt {A : Around} {s : Shared} {x : V} {v : Value} (rx : RelV x v) (fx : flatV x = true) : ∀ {xs : List V} {us : List Value}, Vals xs us → xs.all flatV = true → ∀ u ∈ us, SeqAt.EqAt A s u v (eqU x u)
  | _, _, .nil, _ => fun u hu => by cases hu
  | y :: xs, u :: us, .cons r t, f => fun u' hu => by
    rw [List.all_cons, Bool.and_eq_true] at f
    rcases List.mem_cons.mp hu with rfl | hu
    · rw [eqU_of r f.1]; exact eqAt_V r rx f.1 fx
    · exact mem_eqAt rx fx t f.2 u' hu
def inV (x : V) (xs : List V) : Bool := xs.any fun y => eqV y x
def rIn (K : PySem.W.Frag) (neg : Bool) : R2 := fun x y H Q => ∃ p xs, y = .ref p ∧ (SqL K H p xs ∨ SqT K H p xs) ∧ flatV x = true ∧ xs.all flatV = true ∧ Q (.bl (if neg then !inV x xs else inV x xs)) H
theorem op_in_seq : OpR X (compareOp .In) (rIn X.K false) := by
  intro pins s σ H x y v u Q I rx ry h
  obtain ⟨p, xs, rfl, hq, fx, fs, q⟩ := h
  cases ry
  rcases hq with hq | hq
  · obtain ⟨its, r, pl, hz⟩ := I.list hq
    refine SeqAt.in_listAt (eqU x) pl.isList (fun w hw => mem_eqAt rx fx r fs w (by simpa using hw)) ⟨.bl _, H, I, rfl, ?_⟩
    rw [show its.toArray.any (eqU x) = its.any (eqU x) by simp, any_eqU r fs]
    exact q
  · obtain ⟨its, r, pl, hz⟩ := I.tuple hq
    refine SeqAt.in_tupleAt (eqU x) pl (fun w hw => mem_eqAt rx fx r fs w (by simpa using hw)) ⟨.bl _, H, I, rfl, ?_⟩
    rw [show its.toArray.any (eqU x) = its.any (eqU x) by simp, any_eqU r fs]
    exact q
theorem op_notIn_seq : OpR X (compareOp .NotIn) (rIn X.K true) := by
  intro pins s σ H x y v u Q I rx ry h
  obtain ⟨p, xs, rfl, hq, fx, fs, q⟩ := h
  cases ry
  rcases hq with hq | hq
  · obtain ⟨its, r, pl, hz⟩ := I.list hq
    refine SeqAt.notIn_listAt (eqU x) pl.isList (fun w hw => mem_eqAt rx fx r fs w (by simpa using hw)) ⟨.bl _, H, I, rfl, ?_⟩
    rw [show its.toArray.any (eqU x) = its.any (eqU x) by simp, any_eqU r fs]
    exact q
  · obtain ⟨its, r, pl, hz⟩ := I.tuple hq
    refine SeqAt.notIn_tupleAt (eqU x) pl (fun w hw => mem_eqAt rx fx r fs w (by simpa using hw)) ⟨.bl _, H, I, rfl, ?_⟩
    rw [show its.toArray.any (eqU x) = its.any (eqU x) by simp, any_eqU r fs]
    exact q
theorem op_notIn_str : OpR X (compareOp .NotIn) (fun x y H Q => ∃ i j, x = .str i ∧ y = .str j ∧ Q (.bl (!(!(Builtin.Str.occurrences j i 0 j.length 1).isEmpty))) H) := by
  intro pins s σ H x y v u Q I rx ry h
  obtain ⟨i, j, rfl, rfl, q⟩ := h
  obtain ⟨t, rfl⟩ := rx
  obtain ⟨t', rfl⟩ := ry
  exact notIn_str ⟨.bl _, H, I, rfl, q⟩
theorem call_len_seq : CallR X (.builtin "len") (fun xs H Q => ∃ p ys, xs = [.ref p] ∧ (SqL X.K H p ys ∨ SqT X.K H p ys) ∧ Q (.int ys.length) H) := by
  intro pins s σ H xs us Q I r h
  obtain ⟨p, ys, rfl, hq, q⟩ := h
  obtain ⟨u, rfl, rx⟩ := vals1 r
  cases rx
  have hn := line63
  rcases hq with hq | hq
  · obtain ⟨its, r', pl, hz⟩ := I.list hq
    have hlen := r'.length
    exact Calls.call_len_list pl.isList (by simp only [List.size_toArray] <;> omega) ⟨.int ys.length, H, I.tok _, ⟨s.toks + 1, by rw [List.size_toArray, hlen]⟩, q⟩
  · obtain ⟨its, r', pl, hz⟩ := I.tuple hq
    have hlen := r'.length
    exact len_tuple pl (by simp only [List.size_toArray] <;> omega) ⟨.int ys.length, H, I.tok _, ⟨s.toks + 1, by rw [List.size_toArray, hlen]⟩, q⟩
theorem call_len_str : CallR X (.builtin "len") (fun xs H Q => ∃ z, xs = [.str z] ∧ z.length ≤ sizeLine ∧ Q (.int z.length) H) := by
  intro pins s σ H xs us Q I r h
  obtain ⟨z, rfl, hz, q⟩ := h
  obtain ⟨u, rfl, t, rfl⟩ := vals1 r
  have hn := line63
  exact len_str (by omega) ⟨.int z.length, H, I.tok _, ⟨_, rfl⟩, q⟩
theorem CallR.or {f : Value} {r r' : List V → Hp → VK → Prop} (h : CallR X f r) (h' : CallR X f r') : CallR X f (fun xs H Q => r xs H Q ∨ r' xs H Q) := by
  intro pins s σ H xs us Q I rs q
  rcases q with q | q
  · exact h pins s σ H xs us Q I rs q
  · exact h' pins s σ H xs us Q I rs q
theorem call_list_of : CallR X (.type "list") (fun xs H Q => ∃ p ys, xs = [.ref p] ∧ (SqL X.K H p ys ∨ SqT X.K H p ys) ∧ ∀ l, H l = none → Q (.ref l) (upd H l (.lst ys))) := by
  intro pins s σ H xs us Q I r h
  obtain ⟨p, ys, rfl, hq, q⟩ := h
  obtain ⟨u, rfl, rx⟩ := vals1 r
  cases rx
  have fin : ∀ (its : List Value), Vals ys its → ys.length ≤ sizeLine → ∀ (h' : Heap) (c' : Nat), (∀ b o', s.heap.get? b = some o' → h'.get? b = some o') →
      h'.get? s.heap.objs.size = some { cls := .type "list", dict := none, data := .seq its.toArray c', slots := #[] } → EP X pins σ Q (.ref s.heap.objs.size) { s with heap := h' } := fun its r' hz h' c' kp e =>
    ⟨.ref s.heap.objs.size, _, I.laid (t' := s.toks) kp (Nat.le_refl _) (show ObjOk X.prog X.w _ h' _ (.lst ys) from ⟨hz, its, c', r', e⟩), rfl, q _ (I.hok.fresh (Nat.le_refl _))⟩
  rcases hq with hq | hq
  · obtain ⟨its, r', pl, hz⟩ := I.list hq
    have hlen := r'.length
    obtain ⟨o, ho, hc, n, hd⟩ := pl.isList
    exact call_list_seq p (.inl rfl) ho hc hd (fun h' c' kp e => fin its r' hz h' c' kp e) (by simp only [List.size_toArray] <;> omega)
  · obtain ⟨its, r', pl, hz⟩ := I.tuple hq
    have hlen := r'.length
    obtain ⟨o, ho, hc, n, hd⟩ := pl
    exact call_list_seq p (.inr rfl) ho hc hd (fun h' c' kp e => fin its r' hz h' c' kp e) (by simp only [List.size_toArray] <;> omega)
theorem call_tuple_of : CallR X (.type "tuple") (fun xs H Q => ∃ p ys, xs = [.ref p] ∧ ((SqL X.K H p ys ∧ ∀ l, H l = none → Q (.ref l) (upd H l (.tup ys))) ∨ (SqT X.K H p ys ∧ Q (.ref p) H))) := by
  intro pins s σ H xs us Q I r h
  obtain ⟨p, ys, rfl, h⟩ := h
  obtain ⟨u, rfl, rx⟩ := vals1 r
  cases rx
  rcases h with ⟨hq, q⟩ | ⟨hq, q⟩
  · obtain ⟨its, r', pl, hz⟩ := I.list hq
    have hlen := r'.length
    refine call_tuple_list pl.isList (fun h' kp => ?_) (by simp only [List.size_toArray] <;> omega)
    have I1 : Inv X pins σ H { s with heap := h' } := I.kept (t' := s.toks) kp
    have I2 : Inv X pins σ (upd H h'.objs.size (.tup ys)) { s with heap := h'.push { cls := .type "tuple", data := .seq its.toArray } } :=
      I1.laid (t' := s.toks) (fun b o e => Heap.get?_push_of_some _ e) (Nat.le_refl _) (show ObjOk X.prog X.w _ _ _ (.tup ys) from ⟨hz, its, r', PlainT.new _ _⟩)
    exact ⟨.ref h'.objs.size, _, I2, rfl, q _ (I1.hok.fresh (Nat.le_refl _))⟩
  · obtain ⟨its, r', pl, hz⟩ := I.tuple hq
    exact call_tuple_same pl ⟨.ref p, H, I, rfl, q⟩
def tyV (K : PySem.W.Frag) (T : String) (x : V) (H : Hp) : Prop := match x with
  | .str _ => T = "str"
  | .int _ => T = "int"
  | .ref p => (T = "list" ∧ ∃ xs, SqL K H p xs) ∨ (T = "tuple" ∧ ∃ o, K.lookup p = some o ∧ o.cls = .type "tuple" ∧ o.dict = none) ∨
      (T = "dict" ∧ ((∃ kvs, H p = some (.dK kvs)) ∨ ∃ kvs, H p = some (.dT kvs))) ∨ (T = "set" ∧ ∃ S n, H p = some (.set S n))
  | _ => False
theorem tyV_is {pins : List (Addr × Obj)} {σ : St} {H : Hp} {s : Shared} {T : String} {x : V} {v : Value} (I : Inv X pins σ H s) (r : RelV x v) (ty : tyV X.K T x H) :
    s.TypeIs v T ∧ ∀ a, v = .ref a → ∃ ob, s.heap.get? a = some ob ∧ ob.dict = none := by
  cases x with
  | str z =>
    obtain ⟨t, rfl⟩ := r
    cases (show T = "str" from ty)
    exact ⟨typeIs_str s z t, fun _ e => nomatch e⟩
  | int i =>
    obtain ⟨t, rfl⟩ := r
    cases (show T = "int" from ty)
    exact ⟨typeIs_int s i t, fun _ e => nomatch e⟩
  | ref p =>
    cases r
    rcases ty with ⟨rfl, xs, hq⟩ | ⟨rfl, o, hk, hc, hd⟩ | ⟨rfl, hk⟩ | ⟨rfl, S, n, hk⟩
    · obtain ⟨its, _, pl, _⟩ := I.list hq
      refine ⟨pl.isList.typeIs, fun a e => ?_⟩
      cases e
      obtain ⟨o, n, e, c, hd, _⟩ := pl
      exact ⟨o, e, hd⟩
    · refine ⟨⟨o, I.kIn p o hk, hc⟩, fun a e => ?_⟩
      cases e
      exact ⟨o, I.kIn _ o hk, hd⟩
    · have z : ∃ o, s.heap.get? p = some o ∧ o.ExactDict := by
        rcases hk with ⟨kvs, hk⟩ | ⟨kvs, hk⟩
        · obtain ⟨_, _, _, _, o, _, _, e, ex, _⟩ := I.hok p _ hk
          exact ⟨o, e, ex⟩
        · obtain ⟨_, _, _, _, o, _, _, e, ex, _⟩ := I.hok p _ hk
          exact ⟨o, e, ex⟩
      obtain ⟨o, e, ex⟩ := z
      refine ⟨⟨o, e, ex.1⟩, fun a e2 => ?_⟩
      cases e2
      exact ⟨o, e, ex.2.1⟩
    · obtain ⟨o, _, _, _, e, ex, _⟩ := I.hok p _ hk
      refine ⟨⟨o, e, ex.1⟩, fun a e2 => ?_⟩
      cases e2
      exact ⟨o, e, ex.2.1⟩
  | _ => exact False.elim ty
def tBM0 (K : PySem.W.Frag) (T : String) (r : V → List V → Hp → VK → Prop) (to : TE) : TE := fun σ H Q => to σ H fun x H1 => tyV K T x H1 ∧ r x [] H1 Q
def tBM (K : PySem.W.Frag) (T : String) (r : V → List V → Hp → VK → Prop) (to : TE) (t : TA) : TE := fun σ H Q => to σ H fun x H1 => tyV K T x H1 ∧ t σ H1 fun xs H2 => r x xs H2 Q
variable {o e : Expr} {es : List Expr} {to : TE} {t : TA} {name : Str} {apos cpos : Pos} {T id : String} {r : V → List V → Hp → VK → Prop}
theorem pe_bm0 (pa : PlainAttrs T) (slot : Slot T name id) (hty : typeOf (.builtin id) = pure (.type "method_descriptor")) (hm : MtR X id r) (ho : PE X o to)
    (hbase : attributeBase o name X.env (eval o X.env) = eval o X.env := by rfl) (hline : (apos.endLine == cpos.line) = true := by rfl) : PE X (.Call (.Attribute o name apos) [] [] cpos) (tBM0 X.K T r to) := by
  intro pins s σ H Q I h
  refine wpAny_Call_method0_late hbase hline (thn (ho pins s σ H _ I h) fun v s1 ⟨x, H1, I1, r1, ty, q1⟩ => ?_)
  obtain ⟨h1, h2⟩ := tyV_is I1 r1 ty
  exact ⟨T, id, pa, slot, hty, h1, h2, Calls.callWith_builtin rfl (PySem.evalArgs_none (hm pins s1 σ H1 x [] v [] Q I1 r1 .nil q1))⟩
theorem pe_bm (pa : PlainAttrs T) (slot : Slot T name id) (hty : typeOf (.builtin id) = pure (.type "method_descriptor")) (hm : MtR X id r) (ho : PE X o to) (ha : PA X (e :: es) t)
    (hbase : attributeBase o name X.env (eval o X.env) = eval o X.env := by rfl)
    (hfew : ((backTo cpos (starEach (e :: es) X.env)).all (fun x => !x.1) && (backToKw cpos (keywordEach [] X.env)).all (fun x => x.1.isSome)
      && decide ((e :: es).length + ([] : List Keyword).length + (if ([] : List Keyword).isEmpty then 0 else 1) < 30)) = true := by rfl)
    (hline : (apos.endLine == cpos.line) = true := by rfl) (hs : starEach (e :: es) X.env = (false, eval e X.env) :: starEach es X.env := by rfl) (hplain : (backTo cpos (starEach es X.env)).any (·.1) = false := by rfl) :
    PE X (.Call (.Attribute o name apos) (e :: es) [] cpos) (tBM X.K T r to t) := by
  intro pins s σ H Q I h
  refine wpAny_Call_method_late hbase hfew hline rfl (thn (ho pins s σ H _ I h) fun v s1 ⟨x, H1, I1, r1, ty, q1⟩ => ?_)
  obtain ⟨h1, h2⟩ := tyV_is I1 r1 ty
  refine ⟨T, id, pa, slot, hty, h1, h2, ?_⟩
  have hA := ha cpos pins s1 σ H1 _ I1 q1
  rw [hs] at hA ⊢
  refine Calls.callWith_builtin (by show (false || (backTo cpos (starEach es X.env)).any (·.1)) = false; rw [hplain] <;> rfl) (Calls.evalArgs_plain ?_)
  exact thn hA fun us s2 ⟨vs, H2, I2, r2, q2⟩ => hm pins s2 σ H2 x vs v us Q I2 r1 r2 q2
end
end L2
namespace L2
open PySem PySem.Spec PyProof.Rows
def MtM (X : Cx) (id : String) (r : V → List V → Hp → VK → Prop) : Prop :=
  ∀ (pins : List (Addr × Obj)) (s : Shared) (σ : St) (H : Hp) (x : V) (xs : List V) (v : Value) (us : List Value) (Q : VK), Inv X pins σ H s → RelV x v → Vals xs us → r x xs H Q →
    wpAny (model X.prog X.w) X.A (call (.builtin id) (v :: us)) (EP X pins σ Q) X.xe s
theorem Vals.one : ∀ {x : V} {us : List Value}, Vals [x] us → ∃ u, us = [u] ∧ RelV x u
  | _, _, .cons r .nil => ⟨_, rfl, r⟩
theorem Vals.two : ∀ {x y : V} {us : List Value}, Vals [x, y] us → ∃ u v, us = [u, v] ∧ RelV x u ∧ RelV y v
  | _, _, _, .cons r (.cons q .nil) => ⟨_, _, rfl, r, q⟩
theorem Vals.zero : ∀ {us : List Value}, Vals [] us → us = []
  | _, .nil => rfl
theorem Vals.dropLast {xs : List V} {us : List Value} (h : Vals xs us) : Vals xs.dropLast us.dropLast := by
  induction h with
  | nil => exact .nil
  | cons r t ih =>
    cases t with
    | nil => exact .nil
    | cons q t' => exact .cons r ih
theorem Vals.eraseIdx : ∀ {xs : List V} {us : List Value} (i : Nat), Vals xs us → Vals (xs.eraseIdx i) (us.eraseIdx i)
  | _, _, _, .nil => .nil
  | _, _, 0, .cons _ t => t
  | _, _, i + 1, .cons r t => .cons r (Vals.eraseIdx i t)
theorem Vals.reverse {xs : List V} {us : List Value} (h : Vals xs us) : Vals xs.reverse us.reverse := by
  induction h with
  | nil => exact .nil
  | cons r t ih => rw [List.reverse_cons, List.reverse_cons]; exact Vals.append ih (.cons r .nil)
theorem Vals.rep {xs : List V} {us : List Value} (h : Vals xs us) : ∀ k : Nat, Vals (List.replicate k xs).flatten (List.replicate k us).flatten
  | 0 => .nil
  | k + 1 => by
    rw [List.replicate_succ, List.replicate_succ, List.flatten_cons, List.flatten_cons]
    exact Vals.append h (Vals.rep h k)
theorem erase_last {α : Type} (l : List α) : l.eraseIdx (l.length - 1) = l.dropLast := by
  induction l with
  | nil => rfl
  | cons a r ih =>
    cases r with
    | nil => rfl
    | cons b r =>
      have e : (a :: b :: r).length - 1 = ((b :: r).length - 1) + 1 := by
        have h1 : (a :: b :: r).length = r.length + 2 := rfl
        have h2 : (b :: r).length = r.length + 1 := rfl
        omega
      rw [e, List.eraseIdx_cons_succ, ih]
      all_goals rfl
theorem len_erase {α : Type} : ∀ (l : List α) (i : Nat), (l.eraseIdx i).length ≤ l.length
  | [], _ => Nat.le_refl _
  | _ :: _, 0 => Nat.le_succ _
  | _ :: r, i + 1 => Nat.succ_le_succ (len_erase r i)
theorem foldl_rep (its : List Value) : ∀ (k : Nat) (acc : List Value),
    List.foldl (fun x1 x2 => x1 ++ x2) acc.toArray (List.replicate k its.toArray) = (acc ++ (List.replicate k its).flatten).toArray
  | 0, acc => by simp
  | k + 1, acc => by
    have e : acc.toArray ++ its.toArray = (acc ++ its).toArray := by simp
    have e2 : (acc ++ its) ++ (List.replicate k its).flatten = acc ++ (List.replicate (k + 1) its).flatten := by
      rw [List.replicate_succ, List.flatten_cons, List.append_assoc]
    rw [← e2, ← foldl_rep its k (acc ++ its), ← e, List.replicate_succ, List.foldl_cons]
section
variable {X : Cx} {pins : List (Addr × Obj)} {σ : St} {H : Hp} {s : Shared} {l b : Addr} {xs ys zs : List V}
theorem Inv.lset {its its' : List Value} {n : Nat} {f : Array Value → Array Value} {t' : Nat} (I : Inv X pins σ H s) (hH : H l = some (.lst xs))
    (e : s.heap.get? l = some { cls := .type "list", data := .seq its.toArray n }) (hf : f its.toArray = its'.toArray) (hv : Vals ys its') (hz : ys.length ≤ sizeLine) :
    Inv X pins σ (upd H l (.lst ys)) { s with heap := s.heap.update l (Obj.mapSeq f), toks := t' } := by
  have q := PySem.IsL.update e f
  rw [hf] at q
  refine I.write (x := l) (e := l) (by rw [hH]; exact trivial) (.inl rfl) (fun b' u hb hu => (Heap.get?_update_other s.heap (Obj.mapSeq f) (Ne.symm hb)).trans hu) ⟨_, q⟩ ?_
  exact ⟨hz, its', _, hv, q⟩
theorem Inv.lnew {its : List Value} {t' : Nat} (I : Inv X pins σ H s) (hv : Vals ys its) (hz : ys.length ≤ sizeLine) :
    Inv X pins σ (upd H s.heap.objs.size (.lst ys)) { s with heap := s.heap.push { cls := .type "list", data := .seq its.toArray }, toks := t' } :=
  I.laid (fun _ _ q => Heap.get?_push_of_some _ q) (Nat.le_refl _) ⟨hz, its, 0, hv, Heap.get?_push_size _ rfl⟩
theorem Inv.fresh (I : Inv X pins σ H s) : H s.heap.objs.size = none := I.hok.fresh (Nat.le_refl _)
theorem Inv.lstM (I : Inv X pins σ H s) (hH : H l = some (.lst xs)) : xs.length ≤ sizeLine ∧ ∃ (its : List Value) (n : Nat), Vals xs its ∧ xs.length = its.length ∧ s.heap.get? l = some { cls := .type "list", data := .seq its.toArray n } := by
  obtain ⟨z, its, n, r, e⟩ := I.hok l _ hH
  exact ⟨z, its, n, r, r.length, e⟩
theorem notLongL {n : Nat} (h : n ≤ sizeLine) : Builtin.List.listTooLong n = false := by
  unfold Builtin.List.listTooLong
  exact decide_eq_false (by omega)
end
section
variable {X : Cx}
def rAppend : V → List V → Hp → VK → Prop := fun x vs H Q => ∃ l xs y, x = .ref l ∧ vs = [y] ∧ H l = some (.lst xs) ∧ xs.length < sizeLine ∧ Q .non (upd H l (.lst (xs ++ [y])))
theorem mt_append : MtM X "list.append" rAppend := by
  intro pins s σ H x vs v us Q I rx rv h
  obtain ⟨l, xs, y, rfl, rfl, hH, hz, q⟩ := h
  cases rx
  obtain ⟨u, rfl, ru⟩ := rv.one
  obtain ⟨z, its, n, r, hl, e⟩ := I.lstM hH
  refine call_meets F.slot_list_append ⟨_, e, rfl⟩ F.entry_list_append (F.args_list_append_2 _ _) (PySem.list_append l its.toArray n u (by rw [List.size_toArray]; omega)) ⟨e, ?_⟩
  refine ⟨.non, _, I.lset (its' := its ++ [u]) hH e (by simp) (r.append (.cons ru .nil)) ?_, rfl, q⟩
  rw [List.length_append, List.length_singleton]
  omega
def rExtend : V → List V → Hp → VK → Prop := fun x vs H Q => ∃ l b xs zs, x = .ref l ∧ vs = [.ref b] ∧ H l = some (.lst xs) ∧ H b = some (.lst zs) ∧ xs.length + zs.length ≤ sizeLine ∧ Q .non (upd H l (.lst (xs ++ zs)))
theorem mt_extend : MtM X "list.extend" rExtend := by
  intro pins s σ H x vs v us Q I rx rv h
  obtain ⟨l, b, xs, zs, rfl, rfl, hH, hB, hz, q⟩ := h
  cases rx
  obtain ⟨u, rfl, ru⟩ := rv.one
  cases ru
  obtain ⟨z, its, n, r, hl, e⟩ := I.lstM hH
  obtain ⟨z2, its2, n2, r2, hl2, e2⟩ := I.lstM hB
  have hsz : its.toArray.size + its2.toArray.size ≤ sizeLine := by rw [List.size_toArray, List.size_toArray]; omega
  have hlong : ¬ (!its.toArray.isEmpty && Builtin.List.listTooLong (its.toArray.size + its2.toArray.size)) = true := by
    rw [notLongL hsz, Bool.and_false]
    exact Bool.false_ne_true
  refine call_meets F.slot_list_extend ⟨_, e, rfl⟩ F.entry_list_extend (F.args_list_extend_2 _ _)
    (AutoSeq1.list_extend_list_list_0 l its.toArray n b its2.toArray n2 hlong (by rw [List.size_toArray]; omega) (by omega)) ⟨e, e2, ?_⟩
  refine ⟨.non, _, I.lset (its' := its ++ its2) hH e (by simp) (r.append r2) ?_, rfl, q⟩
  rw [List.length_append]
  omega
def rPop : V → List V → Hp → VK → Prop := fun x vs H Q => ∃ l xs y, x = .ref l ∧ vs = [] ∧ H l = some (.lst xs) ∧ xs[xs.length - 1]? = some y ∧ Q y (upd H l (.lst xs.dropLast))
theorem mt_pop : MtM X "list.pop" rPop := by
  intro pins s σ H x vs v us Q I rx rv h
  obtain ⟨l, xs, y, rfl, rfl, hH, hy, q⟩ := h
  cases rx
  have hus := rv.zero
  subst hus
  obtain ⟨z, its, n, r, hl, e⟩ := I.lstM hH
  obtain ⟨u, hu, ru⟩ := r.get hy
  have hy' : its.toArray[its.toArray.size - 1]? = some u := by
    show its.toArray[its.length - 1]? = some u
    rw [← Array.getElem?_toList, ← hl]
    exact hu
  refine call_meets F.slot_list_pop ⟨_, e, rfl⟩ F.entry_list_pop (F.args_list_pop_1 _) (MeetsSeq.list_pop_last l its.toArray n u hy' (by rw [List.size_toArray]; omega)) ⟨e, ?_⟩
  refine ⟨y, _, I.lset (its' := its.dropLast) hH e ?_ r.dropLast ?_, ru, q⟩
  · show its.toArray.eraseIdxIfInBounds (its.toArray.size - 1) = its.dropLast.toArray
    rw [List.size_toArray, List.eraseIdxIfInBounds_toArray, erase_last]
  · rw [List.length_dropLast]
    omega
def rPopAt : V → List V → Hp → VK → Prop := fun x vs H Q => ∃ l xs i k y, x = .ref l ∧ vs = [.int i] ∧ H l = some (.lst xs) ∧ -(2 ^ 63) ≤ i ∧ i < 2 ^ 63 ∧ seqIndex? i xs.length = some k ∧ xs[k]? = some y ∧ Q y (upd H l (.lst (xs.eraseIdx k)))
theorem mt_popAt : MtM X "list.pop" rPopAt := by
  intro pins s σ H x vs v us Q I rx rv h
  obtain ⟨l, xs, i, k, y, rfl, rfl, hH, h1, h2, hk, hy, q⟩ := h
  cases rx
  obtain ⟨u, rfl, ru⟩ := rv.one
  obtain ⟨t, rfl⟩ := ru
  obtain ⟨z, its, n, r, hl, e⟩ := I.lstM hH
  obtain ⟨w, hw, rw'⟩ := r.get hy
  refine call_meets F.slot_list_pop ⟨_, e, rfl⟩ F.entry_list_pop (F.args_list_pop_2 _ _)
    (MeetsSeq.list_pop_at l its.toArray n i t k w (fitsIndex_both h1 h2) (by rw [List.size_toArray, ← hl]; exact hk) (by rw [← Array.getElem?_toList]; exact hw) (by rw [List.size_toArray]; omega)) ⟨e, ?_⟩
  refine ⟨y, _, I.lset (its' := its.eraseIdx k) hH e ?_ (r.eraseIdx k) ?_, rw', q⟩
  · show its.toArray.eraseIdxIfInBounds k = (its.eraseIdx k).toArray
    rw [List.eraseIdxIfInBounds_toArray]
  · have := len_erase xs k
    omega
def rReverse : V → List V → Hp → VK → Prop := fun x vs H Q => ∃ l xs, x = .ref l ∧ vs = [] ∧ H l = some (.lst xs) ∧ Q .non (upd H l (.lst xs.reverse))
theorem mt_reverse : MtM X "list.reverse" rReverse := by
  intro pins s σ H x vs v us Q I rx rv h
  obtain ⟨l, xs, rfl, rfl, hH, q⟩ := h
  cases rx
  have hus := rv.zero
  subst hus
  obtain ⟨z, its, n, r, hl, e⟩ := I.lstM hH
  refine call_meets F.slot_list_reverse ⟨_, e, rfl⟩ F.entry_list_reverse (F.args_list_reverse_1 _) (AutoSeq1.list_reverse_list_0 l its.toArray n (by rw [List.size_toArray]; omega)) ⟨e, ?_⟩
  refine ⟨.non, _, I.lset (its' := its.reverse) hH e (by simp) r.reverse ?_, rfl, q⟩
  rw [List.length_reverse]
  omega
def rClear : V → List V → Hp → VK → Prop := fun x vs H Q => ∃ l xs, x = .ref l ∧ vs = [] ∧ H l = some (.lst xs) ∧ Q .non (upd H l (.lst []))
theorem mt_clear : MtM X "list.clear" rClear := by
  intro pins s σ H x vs v us Q I rx rv h
  obtain ⟨l, xs, rfl, rfl, hH, q⟩ := h
  cases rx
  have hus := rv.zero
  subst hus
  obtain ⟨z, its, n, r, hl, e⟩ := I.lstM hH
  refine call_meets F.slot_list_clear ⟨_, e, rfl⟩ F.entry_list_clear (F.args_list_clear_1 _) (AutoSeq1.list_clear_list_0 l its.toArray n (by rw [List.size_toArray]; omega)) ⟨e, ?_⟩
  exact ⟨.non, _, I.lset (its' := []) (ys := []) hH e rfl .nil (Nat.zero_le _), rfl, q⟩
def rCat : R2 := fun x y H Q => ∃ l b xs zs, x = .ref l ∧ y = .ref b ∧ H l = some (.lst xs) ∧ H b = some (.lst zs) ∧ xs.length + zs.length ≤ sizeLine ∧ ∀ p, H p = none → Q (.ref p) (upd H p (.lst (xs ++ zs)))
theorem op_cat : OpR X (binaryOp .Add) rCat := by
  intro pins s σ H x y v u Q I rx ry h
  obtain ⟨l, b, xs, zs, rfl, rfl, hH, hB, hz, q⟩ := h
  cases rx
  cases ry
  obtain ⟨z, its, n, r, hl, e⟩ := I.lstM hH
  obtain ⟨z2, its2, n2, r2, hl2, e2⟩ := I.lstM hB
  refine PySem.P.add_list e e2 ?_ (by rw [List.size_toArray, List.size_toArray]; omega)
  have ea : its.toArray ++ its2.toArray = (its ++ its2).toArray := by simp
  rw [ea]
  exact ⟨.ref _, _, I.lnew (t' := s.toks) (r.append r2) (by rw [List.length_append]; omega), rfl, q _ I.fresh⟩
def rRep : R2 := fun x y H Q => ∃ l k xs, x = .ref l ∧ y = .int k ∧ H l = some (.lst xs) ∧ -(2 ^ 63) ≤ k ∧ k < 2 ^ 63 ∧ xs.length * k.toNat ≤ sizeLine ∧
  ∀ p, H p = none → Q (.ref p) (upd H p (.lst (List.replicate k.toNat xs).flatten))
theorem len_rep {α : Type} (xs : List α) (k : Nat) : (List.replicate k xs).flatten.length = k * xs.length := by
  induction k with
  | zero => simp
  | succ k ih => rw [List.replicate_succ, List.flatten_cons, List.length_append, ih, Nat.succ_mul, Nat.add_comm]
theorem op_rep : OpR X (binaryOp .Mult) rRep := by
  intro pins s σ H x y v u Q I rx ry h
  obtain ⟨l, k, xs, rfl, rfl, hH, h1, h2, hz, q⟩ := h
  cases rx
  obtain ⟨t, rfl⟩ := ry
  obtain ⟨z, its, n, r, hl, e⟩ := I.lstM hH
  have hlen : its.toArray.size * k.toNat ≤ sizeLine := by rw [List.size_toArray, ← hl]; exact hz
  have hcap : ¬ its.toArray.size * k.toNat > (2 ^ 63 - 1) / 8 := by
    have : (sizeLine : Nat) ≤ (2 ^ 63 - 1) / 8 := by decide
    omega
  have hfit : ¬ (!Builtin.List.listFitsIndex k) = true := by
    rw [fitsIndex_both h1 h2]
    exact Bool.false_ne_true
  have hlong : ¬ Builtin.List.listTooLong (its.toArray.size * k.toNat) = true := by
    rw [notLongL hlen]
    exact Bool.false_ne_true
  have hnew : List.foldl (fun x1 x2 => x1 ++ x2) #[] (List.replicate (if its.toArray.isEmpty = true then 0 else k.toNat) its.toArray) = (List.replicate k.toNat its).flatten.toArray := by
    have f0 : ∀ m : Nat, List.foldl (fun x1 x2 => x1 ++ x2) #[] (List.replicate m its.toArray) = (List.replicate m its).flatten.toArray := fun m => by
      have := foldl_rep its m []
      rw [List.nil_append] at this
      exact this
    rw [f0]
    cases its with
    | nil => simp
    | cons a r' => rw [if_neg (by simp)]
  refine wpAny_binaryOp_repeat_ref (T := "list") (U := "int") (by decide) ⟨_, e, rfl⟩ (fun s' => typeIs_int s' k t) noFill_list_mul F.fills_int_mul F.slot_int_rmul repeat_list F.slot_int_index.lookup
    (call_meets F.slot_int_rmul (typeIs_int s k t) F.entry_int_rmul (F.args_int_rmul_2 _ _) (int___rmul___int_list k t l its.toArray n)
      ⟨e, rfl, ⟨_, e, rfl⟩, call_meets F.slot_list_mul ⟨_, e, rfl⟩ F.entry_list_mul (F.args_list_mul_2 _ _) (AutoListH.list___mul___list_int_3 l its.toArray n k t hfit hcap hlong) ⟨e, ?_⟩⟩)
  rw [hnew]
  exact ⟨.ref _, _, I.lnew (t' := s.toks) (r.rep k.toNat) (by rw [len_rep, Nat.mul_comm]; exact hz), rfl, q _ I.fresh⟩
theorem del_list {pins : List (Addr × Obj)} {s : Shared} {σ : St} {H : Hp} {l : Addr} {xs : List V} {i : Int} {t : Tok} {k : Nat} {Q : Unit → Shared → Prop} (I : Inv X pins σ H s) (hH : H l = some (.lst xs))
    (h1 : -(2 ^ 63) ≤ i) (h2 : i < 2 ^ 63) (hk : seqIndex? i xs.length = some k) (h : ∀ s', Inv X pins σ (upd H l (.lst (xs.eraseIdx k))) s' → Q () s') :
    wpAny (model X.prog X.w) X.A (delItem (.ref l) (.int i t)) Q X.xe s := by
  obtain ⟨z, its, n, r, hl, e⟩ := I.lstM hH
  refine PySem.P.delItem_list (k := k) e (fitsIndex_both h1 h2) (by rw [List.size_toArray, ← hl]; exact hk) (h _ ?_) (by rw [List.size_toArray]; omega)
  refine I.lset (its' := its.eraseIdx k) (t' := s.toks) hH e ?_ (r.eraseIdx k) ?_
  · show its.toArray.eraseIdxIfInBounds k = (its.eraseIdx k).toArray
    rw [List.eraseIdxIfInBounds_toArray]
  · have := len_erase xs k
    omega
end
section
variable {prog : Program} {w : World} {A : Around} {E : Value → Shared → Prop} {s : Shared}
theorem splice_eq (its its2 : List Value) (a c : Nat) : its.toArray.extract 0 a ++ its2.toArray ++ its.toArray.extract c its.toArray.size = (its.take a ++ its2 ++ its.drop c).toArray := by
  apply Array.toList_inj.mp
  first
    | (simp
       exact List.take_of_length_le (by simp))
    | simp [List.take_of_length_le]
    | simp
theorem bounds_run {a c n : Nat} (hac : a ≤ c) (hc : c ≤ n) : sliceBounds (some (a : Int)) (some (c : Int)) none n = ((a : Int), (c : Int), 1) := by
  simp only [sliceBounds, Option.getD_none]
  have h1 : ¬ ((a : Int) < 0) := by omega
  have h2 : ¬ ((c : Int) < 0) := by omega
  simp only [h1, h2, if_false, show (1 : Int) > 0 by decide, if_true]
  congr 1
  · omega
  · congr 1; omega
set_option maxRecDepth 100000 in
theorem setItem_slice {l b sl : Addr} {items new : Array Value} {n n2 : Nat} {vl vu : Value} {a c : Nat} {Q : Unit → Shared → Prop}
    (e : s.heap.get? l = some { cls := .type "list", data := .seq items n }) (e2 : s.heap.get? b = some { cls := .type "list", data := .seq new n2 }) (hne : l ≠ b)
    (hs : s.heap.IsSliceOf sl vl vu .none) (pl : IsPart vl (some (a : Int))) (pu : IsPart vu (some (c : Int))) (hac : a ≤ c) (hc : c ≤ items.size)
    (hsz : items.size + new.size ≤ sizeLine) (h : Q () { s with heap := s.heap.update l (Obj.mapSeq fun xs => xs.extract 0 a ++ new ++ xs.extract c xs.size) }) :
    wpAny (model prog w) A (setItem (.ref l) (.ref sl) (.ref b)) Q E s := by
  have hl : s.heap.IsList l items := PySem.IsL.isList e
  have hb : s.heap.IsList b new := PySem.IsL.isList e2
  obtain ⟨os, hos, hcs, hds⟩ := id hs
  have hTs : s.TypeIs (.ref sl) "slice" := ⟨os, hos, hcs⟩
  have hstep : ¬ ((rawPart none == rawInt 0) = true) := Bool.false_ne_true
  have hsame : Builtin.List.listSameRef (.ref l) (.ref b) = false := by
    unfold Builtin.List.listSameRef
    exact beq_eq_false_iff_ne.mpr hne
  have hmax : (max (a : Int) (c : Int)).toNat = c := by omega
  have hz' : ((fun xs : Array Value => xs.extract 0 a ++ new ++ xs.extract c xs.size) items).size ≤ sizeLine + 1 := by
    simp only [Array.size_append, Array.size_extract]
    omega
  unfold setItem
  try with_reducible refine wpAny_holding ?_
  first | refine wpAny_bind (wpAny_pure ?_) | skip
  refine wpAny_bind (wpAny_sequenceKey hl.typeIs (by decide) ?_)
  refine wpAny_bind (wpAny_callSpecial?_slot (name := Str.ofString "__setitem__") hl.typeIs slot_list_setitem
    (wpAny_call_entry slot_list_setitem hl.typeIs entry_list_setitem ?_ (args_list_setitem _ _ _)))
  show wpAny _ _ (Builtin.List.listSubscript? (.ref sl) >>= _) _ _ s
  refine wpAny_bind ?_
  unfold Builtin.List.listSubscript?
  refine wpAny_bind (wpAny_specialOf hTs slice_no_index ?_)
  simp only [Option.isNone_none, if_true]
  refine wpAny_pure ?_
  show wpAny _ _ (typeOf (.ref sl) >>= _) _ _ s
  refine wpAny_bind (wpAny_typeOf hTs ?_)
  first
    | rw [if_neg (by decide)]
    | refine PySem.W.KFB.if_not (by decide) ?_
  rw [listSliceParts_eq]
  refine wpAny_bind (wpAny_bind (wpAny_field hos hds (x := .none) rfl (wpAny_bind (wpAny_listPart .none ?_))))
  rw [if_neg hstep]
  refine wpAny_bind (wpAny_field hos hds (x := vl) rfl (wpAny_bind (wpAny_listPart pl ?_)))
  refine wpAny_bind (wpAny_field hos hds (x := vu) rfl (wpAny_bind (wpAny_listPart pu (wpAny_pure ?_))))
  first
    | simp only [hsame, Bool.false_eq_true, if_false]
    | refine PySem.W.KFB.if_not hsame ?_
    | (dsimp only
       rw [if_neg (by rw [hsame]; exact Bool.false_ne_true)])
  refine wpAny_bind (m := Builtin.List.listAllItems (.ref b) "must assign iterable to extended slice") ?_
  unfold Builtin.List.listAllItems
  refine wpAny_bind (wpAny_typeOf hb.typeIs ?_)
  first
    | refine PySem.W.KFB.if_so (by decide) ?_
    | rw [if_pos (by decide)]
    | simp only [beq_self_eq_true, Bool.true_or, if_true]
  unfold Builtin.List.listItems
  refine wpAny_bind (wpAny_seqItems e2 rfl (wpAny_pure ?_))
  refine wpAny_bind (wpAny_bind (wpAny_seqItems e rfl (wpAny_pure ?_)))
  refine wpAny_bind (wpAny_of_eq ((sliceIndices_raw (some (a : Int)) (some (c : Int)) none items.size (by simp)).trans (congrArg (pure : Int × Int × Int → Sem (Int × Int × Int)) (bounds_run hac hc))) ?_)
  show wpAny _ _ (if ((1 : Int) == 1) = true then _ else _) _ _ s
  rw [if_pos (by decide)]
  refine wpAny_bind (wpAny_rule ?_)
  first
    | simp only [notLongL hsz, Bool.false_eq_true, if_false]
    | refine PySem.W.KFB.if_not (notLongL hsz) ?_
  first | refine wpAny_bind (wpAny_pure ?_) | skip
  show wpAny _ _ (updateSeq l (fun xs => xs.extract 0 ((a : Int)).toNat ++ new ++ xs.extract (max (a : Int) (c : Int)).toNat xs.size) >>= _) _ _ s
  rw [hmax, Int.toNat_natCast]
  refine wpAny_bind (wpAny_updateSeq (hz := Nat.le_trans (Nat.le_add_right _ _) hsz) (_hz' := hz') e rfl ?_)
  refine wpAny_bind (wpAny_letGo ?_)
  first
    | exact wpAny_bind (wpAny_pure (wpAny_pure ⟨.none, rfl, wpAny_pure h⟩))
    | exact wpAny_pure ⟨.none, rfl, wpAny_pure h⟩
end
section
variable {X : Cx}
theorem set_slice {pins : List (Addr × Obj)} {s : Shared} {σ : St} {H : Hp} {l b sl : Addr} {xs ys : List V} {a c : Int} {vl vu : Value} {Q : Unit → Shared → Prop} (I : Inv X pins σ H s)
    (hH : H l = some (.lst xs)) (hB : H b = some (.lst ys)) (hne : l ≠ b) (hs : s.heap.IsSliceOf sl vl vu .none) (ra : RelV (.int a) vl) (rc : RelV (.int c) vu) (h0 : 0 ≤ a) (hac : a ≤ c) (hc : c ≤ xs.length)
    (hz : xs.length + ys.length ≤ sizeLine) (h : ∀ s', Inv X pins σ (upd H l (.lst (xs.take a.toNat ++ ys ++ xs.drop c.toNat))) s' → Q () s') :
    wpAny (model X.prog X.w) X.A (setItem (.ref l) (.ref sl) (.ref b)) Q X.xe s := by
  obtain ⟨ta, rfl⟩ := ra
  obtain ⟨tc, rfl⟩ := rc
  obtain ⟨z, its, n, r, hl, e⟩ := I.lstM hH
  obtain ⟨z2, its2, n2, r2, hl2, e2⟩ := I.lstM hB
  obtain ⟨a', rfl⟩ := Int.eq_ofNat_of_zero_le h0
  obtain ⟨c', rfl⟩ := Int.eq_ofNat_of_zero_le (Int.le_trans h0 hac)
  simp only [Int.toNat_natCast] at h
  refine setItem_slice (a := a') (c := c') e e2 hne hs (.int _ _) (.int _ _) (by omega) (by rw [List.size_toArray]; omega) (by rw [List.size_toArray, List.size_toArray]; omega) (h _ ?_)
  refine I.lset (its' := its.take a' ++ its2 ++ its.drop c') (t' := s.toks) hH e ?_ (Vals.append (Vals.append (r.take _) r2) (r.drop _)) ?_
  · exact splice_eq its its2 a' c'
  · rw [List.length_append, List.length_append, List.length_take, List.length_drop]
    omega
end
end L2
namespace L2
open PySem PySem.Spec PyProof.Rows
section
variable {κ : Type} [DecidableEq κ]
def valV (kvs : List (κ × V)) (k : κ) : Option V := (kvs.find? fun kv => decide (kv.1 = k)).map (·.2)
def putK (kvs : List (κ × V)) (k : κ) (v : V) : List (κ × V) :=
  if (kvs.any fun kv => decide (kv.1 = k)) = true then kvs.map (fun kv => if kv.1 = k then (kv.1, v) else kv) else kvs ++ [(k, v)]
def dropK (kvs : List (κ × V)) (k : κ) : List (κ × V) := kvs.filter fun kv => decide (kv.1 ≠ k)
theorem valV_nil {k : κ} : valV ([] : List (κ × V)) k = none := rfl
theorem valV_pos {p : κ × V} {r : List (κ × V)} {k : κ} (e : p.1 = k) : valV (p :: r) k = some p.2 := by simp [valV, List.find?_cons, e]
theorem valV_neg {p : κ × V} {r : List (κ × V)} {k : κ} (e : ¬ p.1 = k) : valV (p :: r) k = valV r k := by simp [valV, List.find?_cons, e]
theorem valV_any (k : κ) : ∀ kvs : List (κ × V), (kvs.any fun kv => decide (kv.1 = k)) = (valV kvs k).isSome
  | [] => rfl
  | p :: r => by
    rw [List.any_cons]
    by_cases e : p.1 = k
    · simp only [valV_pos e, decide_eq_true e, Bool.true_or, Option.isSome_some]
    · rw [valV_neg e, decide_eq_false e, Bool.false_or]; exact valV_any k r
theorem valV_map (k j : κ) (y : V) : ∀ kvs : List (κ × V), valV (kvs.map fun kv => if kv.1 = k then (kv.1, y) else kv) j = (valV kvs j).map fun x => if j = k then y else x
  | [] => rfl
  | p :: r => by
    have ih := valV_map k j y r
    rw [List.map_cons]
    by_cases h : p.1 = k
    · rw [if_pos h]
      by_cases e : p.1 = j
      · rw [valV_pos (p := (p.1, y)) e, valV_pos e, Option.map_some, if_pos (e.symm.trans h)]
      · rw [valV_neg (p := (p.1, y)) e, valV_neg e, ih]
    · rw [if_neg h]
      by_cases e : p.1 = j
      · rw [valV_pos (p := p) e, valV_pos e, Option.map_some, if_neg (fun z => h (e.trans z))]
      · rw [valV_neg (p := p) e, valV_neg e, ih]
theorem valV_snoc (k j : κ) (y : V) : ∀ kvs : List (κ × V), valV kvs k = none → valV (kvs ++ [(k, y)]) j = if j = k then some y else valV kvs j
  | [], _ => by
    by_cases e : k = j
    · rw [if_pos e.symm]; exact valV_pos (p := (k, y)) e
    · rw [if_neg (fun z => e z.symm)]; exact valV_neg (p := (k, y)) e
  | p :: r, hn => by
    rw [List.cons_append]
    have hk : ¬ p.1 = k := fun z => by rw [valV_pos z] at hn; cases hn
    rw [valV_neg hk] at hn
    have ih := valV_snoc k j y r hn
    by_cases e : p.1 = j
    · rw [valV_pos e, valV_pos e, if_neg (fun z => hk (e.trans z))]
    · rw [valV_neg e, valV_neg e, ih]
theorem valV_put (kvs : List (κ × V)) (k j : κ) (y : V) : valV (putK kvs k y) j = if j = k then some y else valV kvs j := by
  unfold putK
  by_cases a : (kvs.any fun kv => decide (kv.1 = k)) = true
  · rw [if_pos a, valV_map]
    rw [valV_any] at a
    by_cases e : j = k
    · obtain ⟨x, hx⟩ := Option.isSome_iff_exists.mp a
      rw [if_pos e, e, hx, Option.map_some, if_pos rfl]
    · rw [if_neg e]
      cases valV kvs j with
      | none => rfl
      | some x => rw [Option.map_some, if_neg e]
  · rw [if_neg a]
    refine valV_snoc k j y kvs ?_
    rw [valV_any] at a
    cases q : valV kvs k with
    | none => rfl
    | some x => rw [q] at a; exact (a rfl).elim
theorem length_putK (kvs : List (κ × V)) (k : κ) (v : V) : (putK kvs k v).length ≤ kvs.length + 1 := by
  unfold putK
  split
  · rw [List.length_map]; omega
  · rw [List.length_append, List.length_cons, List.length_nil]; omega
theorem putK_new {kvs : List (κ × V)} {k : κ} (v : V) (h : valV kvs k = none) : putK kvs k v = kvs ++ [(k, v)] := by
  unfold putK
  rw [valV_any, h]
  exact if_neg (by decide)
theorem RelO.isSome_eq {o : Option V} {u : Option Value} (r : RelO o u) : o.isSome = u.isSome := by
  cases o with
  | none => cases u with
    | none => rfl
    | some _ => exact (show False from r).elim
  | some _ => cases u with
    | none => exact (show False from r).elim
    | some _ => rfl
theorem RelO.getD {o : Option V} {u : Option Value} {d : V} {d' : Value} (r : RelO o u) (rd : RelV d d') : RelV (o.getD d) (u.getD d') := by
  cases o with
  | none => cases u with
    | none => exact rd
    | some _ => exact (show False from r).elim
  | some _ => cases u with
    | none => exact (show False from r).elim
    | some _ => exact r
theorem KV.val {kvs : List (κ × V)} {vs : List (κ × Value)} (r : KV kvs vs) (k : κ) : RelO (valV kvs k) (valueAt vs k) := by
  unfold KV at r
  induction r with
  | nil => exact True.intro
  | @cons p q ps qs h t ih =>
    obtain ⟨h1, h2⟩ := h
    by_cases e : p.1 = k
    · have e' : q.1 = k := h1.symm.trans e
      have b : valueAt (q :: qs) k = some q.2 := by simp [valueAt, List.find?_cons, e']
      rw [valV_pos e, b]; exact h2
    · have e' : ¬ q.1 = k := fun z => e (h1.trans z)
      have b : valueAt (q :: qs) k = valueAt qs k := by simp [valueAt, List.find?_cons, e']
      rw [valV_neg e, b]; exact ih
theorem KV.any {kvs : List (κ × V)} {vs : List (κ × Value)} (r : KV kvs vs) (k : κ) : (kvs.any fun kv => decide (kv.1 = k)) = vs.any fun kv => decide (kv.1 = k) := by
  unfold KV at r
  induction r with
  | nil => rfl
  | cons h t ih => rw [List.any_cons, List.any_cons, ih, h.1]
theorem KV.repl {kvs : List (κ × V)} {vs : List (κ × Value)} (r : KV kvs vs) (k : κ) {y : V} {u : Value} (ry : RelV y u) :
    KV (kvs.map fun kv => if kv.1 = k then (kv.1, y) else kv) (vs.map fun kv => if kv.1 = k then (kv.1, u) else kv) := by
  unfold KV at r ⊢
  induction r with
  | nil => exact .nil
  | @cons p q ps qs h t ih =>
    rw [List.map_cons, List.map_cons]
    refine .cons ?_ ih
    obtain ⟨h1, h2⟩ := h
    by_cases e : p.1 = k
    · rw [if_pos e, if_pos (h1.symm.trans e)]; exact ⟨h1, ry⟩
    · rw [if_neg e, if_neg (fun z => e (h1.trans z))]; exact ⟨h1, h2⟩
theorem KV.put {kvs : List (κ × V)} {vs : List (κ × Value)} (r : KV kvs vs) (k : κ) {y : V} {u : Value} (ry : RelV y u) : KV (putK kvs k y) (stored vs k u) := by
  unfold putK stored
  rw [r.any k]
  by_cases e : (vs.any fun kv => decide (kv.1 = k)) = true
  · rw [if_pos e, if_pos e]; exact r.repl k ry
  · rw [if_neg e, if_neg e]; exact Paired.snoc r ⟨rfl, ry⟩
theorem KV.drop {kvs : List (κ × V)} {vs : List (κ × Value)} (r : KV kvs vs) (k : κ) : KV (dropK kvs k) (without vs k) := by
  unfold KV at r ⊢
  unfold dropK without
  induction r with
  | nil => exact .nil
  | @cons p q ps qs h t ih =>
    obtain ⟨h1, h2⟩ := h
    rw [List.filter_cons, List.filter_cons]
    by_cases e : p.1 = k
    · have a : ¬ decide (p.1 ≠ k) = true := by simp [e]
      have b : ¬ decide (q.1 ≠ k) = true := by simp [h1.symm.trans e]
      rw [if_neg a, if_neg b]; exact ih
    · have e' : ¬ q.1 = k := fun z => e (h1.trans z)
      have a : decide (p.1 ≠ k) = true := by simp [e]
      have b : decide (q.1 ≠ k) = true := by simp [e']
      rw [if_pos a, if_pos b]; exact .cons ⟨h1, h2⟩ ih
theorem KV.keys {kvs : List (κ × V)} {vs : List (κ × Value)} (r : KV kvs vs) : kvs.map (·.1) = vs.map (·.1) := by
  unfold KV at r
  induction r with
  | nil => rfl
  | cons h t ih => rw [List.map_cons, List.map_cons, ih, h.1]
theorem KV.length {kvs : List (κ × V)} {vs : List (κ × Value)} (r : KV kvs vs) : kvs.length = vs.length := Paired.length r
theorem dropK_le (kvs : List (κ × V)) (k : κ) : (dropK kvs k).length ≤ kvs.length := List.length_filter_le _ _
end
theorem kV_is {P : Program} {w : World} {k : Key} {u : Value} (r : RelV (kV k) u) : (mixKind P w).is k u = true := by
  cases k with
  | inl i => obtain ⟨t, e⟩ := (show ∃ t, u = Value.int i t from r); subst e; exact mixKind_int P w i t
  | inr x => obtain ⟨t, e⟩ := (show ∃ t, u = Value.str x t from r); subst e; exact mixKind_str P w x t
theorem kV_inj {a b : Key} (e : kV a = kV b) : a = b := by
  cases a with
  | inl i => cases b with
    | inl j => have e' : V.int i = V.int j := e; injection e' with e'; rw [e']
    | inr y => exact nomatch (show V.int i = V.str y from e)
  | inr x => cases b with
    | inl j => exact nomatch (show V.str x = V.int j from e)
    | inr y => have e' : V.str x = V.str y := e; injection e' with e'; rw [e']
theorem kVs_inj : ∀ {a b : List Key}, a.map kV = b.map kV → a = b
  | [], [], _ => rfl
  | [], _ :: _, e => by simp at e
  | _ :: _, [], e => by simp at e
  | x :: xs, y :: ys, e => by
    rw [List.map_cons, List.map_cons] at e
    injection e with e1 e2
    rw [kV_inj e1, kVs_inj e2]
theorem items_are {P : Program} {w : World} : ∀ {ks : List Key} {us : List Value}, Vals (ks.map kV) us → ItemsAre (mixKind P w) ks us
  | [], _, r => by rw [List.map_nil] at r; cases r; exact .nil
  | k :: ks, _, r => by
    rw [List.map_cons] at r
    cases r with
    | cons h t => exact .cons (kV_is h) (items_are t)
abbrev KT (H : Hp) : List (List Key × V) → List (List Key × Addr × Value) → Prop := Paired fun p q => p.1 = q.1 ∧ H q.2.1 = some (.tup (p.1.map kV)) ∧ RelV p.2 q.2.2
theorem KT.val {H : Hp} {kvs : List (List Key × V)} {xs : List (List Key × Addr × Value)} (r : KT H kvs xs) (k : List Key) : RelO (valV kvs k) ((atKey xs k).map (·.2)) := by
  induction r with
  | nil => exact True.intro
  | @cons p q ps qs h t ih =>
    obtain ⟨h1, _, h2⟩ := h
    by_cases e : p.1 = k
    · have e' : q.1 = k := h1.symm.trans e
      have b : atKey (q :: qs) k = some q.2 := by simp [atKey, List.find?_cons, e']
      rw [valV_pos e, b]; exact h2
    · have e' : ¬ q.1 = k := fun z => e (h1.trans z)
      have b : atKey (q :: qs) k = atKey qs k := by simp [atKey, List.find?_cons, e']
      rw [valV_neg e, b]; exact ih
theorem KT.repl {H : Hp} {kvs : List (List Key × V)} {xs : List (List Key × Addr × Value)} (r : KT H kvs xs) (k : List Key) {y : V} {u : Value} (ry : RelV y u) :
    KT H (kvs.map fun kv => if kv.1 = k then (kv.1, y) else kv) (xs.map (putAt k u)) := by
  induction r with
  | nil => exact .nil
  | @cons p q ps qs h t ih =>
    rw [List.map_cons, List.map_cons]
    refine .cons ?_ ih
    obtain ⟨h1, h2, h3⟩ := h
    unfold putAt
    by_cases e : p.1 = k
    · rw [if_pos e, if_pos (h1.symm.trans e)]; exact ⟨h1, h2, ry⟩
    · rw [if_neg e, if_neg (fun z => e (h1.trans z))]; exact ⟨h1, h2, h3⟩
theorem KT.put {H : Hp} {kvs : List (List Key × V)} {xs : List (List Key × Addr × Value)} (r : KT H kvs xs) (k : List Key) {b : Addr} {y : V} {u : Value} (hb : H b = some (.tup (k.map kV))) (ry : RelV y u) :
    KT H (putK kvs k y) (storedH xs k b u) := by
  have e : (kvs.any fun kv => decide (kv.1 = k)) = (atKey xs k).isSome := by
    rw [valV_any, (r.val k).isSome_eq, Option.isSome_map]
  unfold putK storedH
  rw [e]
  by_cases q : (atKey xs k).isSome = true
  · rw [if_pos q, if_pos q]; exact r.repl k ry
  · rw [if_neg q, if_neg q]; exact Paired.snoc r ⟨rfl, hb, ry⟩
theorem KT.keeps {H H' : Hp} {kvs : List (List Key × V)} {xs : List (List Key × Addr × Value)} (r : KT H kvs xs) (ht : ∀ b ys, H b = some (.tup ys) → H' b = some (.tup ys)) : KT H' kvs xs :=
  Paired.mapP r fun _ _ z => ⟨z.1, ht _ _ z.2.1, z.2.2⟩
section
variable {P : Program} {w : World} {H : Hp} {h : Heap} {a : Addr}
theorem rd_of {u : HO} (ok : HOk P w H h) (e : Rd H a u) : ObjOk P w H h a u := e.ok ok
theorem dk_rd {kvs : List (Key × V)} (ok : HOk P w H h) (e : Rd H a (.dK kvs)) : kvs.length ≤ sizeLine ∧ (a == sysModules) = false ∧ ∃ vs, KV kvs vs ∧ h.DictOf (mixKind P w) a vs :=
  show ObjOk P w H h a (.dK kvs) from rd_of ok e
theorem dk_of {kvs : List (Key × V)} (ok : HOk P w H h) (e : H a = some (.dK kvs)) : kvs.length ≤ sizeLine ∧ (a == sysModules) = false ∧ ∃ vs, KV kvs vs ∧ h.DictOf (mixKind P w) a vs := dk_rd ok (.inl e)
theorem key_of {ks : List Key} (ok : HOk P w H h) (e : H a = some (.tup (ks.map kV))) : (tupleKind (mixKind P w)).is h ks a := by
  obtain ⟨_, its, r, o, h1, h2, _, n, h3⟩ := (show ObjOk P w H h a (.tup (ks.map kV)) from ok a _ e)
  exact ⟨o, its.toArray, n, h1, h2, h3, by simpa using items_are r⟩
theorem dt_rd {kvs : List (List Key × V)} (ok : HOk P w H h) (e : Rd H a (.dT kvs)) : kvs.length ≤ sizeLine ∧ (a == sysModules) = false ∧
    ∃ xs, KT H kvs xs ∧ h.DictOfH (tupleKind (mixKind P w)) a xs := by
  obtain ⟨z, y, xs, r, o, es, ep, h1, h2, h3, h4, h5⟩ := (show ObjOk P w H h a (.dT kvs) from rd_of ok e)
  refine ⟨z, y, xs, r, o, es, ep, h1, h2, h3, h4, fun x hx => ?_, h5⟩
  have all : ∀ {l : List (List Key × V)} {m : List (List Key × Addr × Value)}, KT H l m → ∀ x ∈ m, (tupleKind (mixKind P w)).is h x.1 x.2.1 := by
    intro l m q
    induction q with
    | nil => intro x hx; exact nomatch hx
    | @cons p q ps qs hq t ih =>
      intro x hx
      rcases List.mem_cons.mp hx with e | hx
      · subst e
        exact key_of ok (by rw [← hq.1]; exact hq.2.1)
      · exact ih x hx
  exact all r x hx
theorem dt_of {kvs : List (List Key × V)} (ok : HOk P w H h) (e : H a = some (.dT kvs)) : kvs.length ≤ sizeLine ∧ (a == sysModules) = false ∧
    ∃ xs, KT H kvs xs ∧ h.DictOfH (tupleKind (mixKind P w)) a xs := dt_rd ok (.inl e)
end
def DGet (H : Hp) (a : Addr) (y : V) (r : Option V) : Prop :=
  (∃ kvs k, Rd H a (.dK kvs) ∧ y = kV k ∧ r = valV kvs k) ∨ ∃ kvs k b, Rd H a (.dT kvs) ∧ y = .ref b ∧ H b = some (.tup (k.map kV)) ∧ r = valV kvs k
def DPut (H : Hp) (a : Addr) (y v : V) (H' : Hp) : Prop :=
  (∃ kvs k, H a = some (.dK kvs) ∧ y = kV k ∧ kvs.length < sizeLine ∧ H' = upd H a (.dK (putK kvs k v))) ∨
  ∃ kvs k b, H a = some (.dT kvs) ∧ y = .ref b ∧ H b = some (.tup (k.map kV)) ∧ kvs.length < sizeLine ∧ H' = upd H a (.dT (putK kvs k v))
theorem DGet.k {H : Hp} {a : Addr} {kvs : List (Key × V)} {k : Key} (e : H a = some (.dK kvs)) : DGet H a (kV k) (valV kvs k) := .inl ⟨kvs, k, .inl e, rfl, rfl⟩
theorem DGet.t {H : Hp} {a b : Addr} {kvs : List (List Key × V)} {k : List Key} (e : H a = some (.dT kvs)) (eb : H b = some (.tup (k.map kV))) : DGet H a (.ref b) (valV kvs k) := .inr ⟨kvs, k, b, .inl e, rfl, eb, rfl⟩
theorem DPut.k {H : Hp} {a : Addr} {kvs : List (Key × V)} {k : Key} {v : V} (e : H a = some (.dK kvs)) (hl : kvs.length < sizeLine) : DPut H a (kV k) v (upd H a (.dK (putK kvs k v))) := .inl ⟨kvs, k, e, rfl, hl, rfl⟩
theorem DPut.t {H : Hp} {a b : Addr} {kvs : List (List Key × V)} {k : List Key} {v : V} (e : H a = some (.dT kvs)) (eb : H b = some (.tup (k.map kV))) (hl : kvs.length < sizeLine) :
    DPut H a (.ref b) v (upd H a (.dT (putK kvs k v))) := .inr ⟨kvs, k, b, e, rfl, eb, hl, rfl⟩
section
variable {X : Cx} {pins : List (Addr × Obj)} {σ : St} {H : Hp} {s : Shared} {a : Addr} {y v : V} {u r : Value} {o : Option V} {A : Around} {E : Value → Shared → Prop}
theorem Inv.big (I : Inv X pins σ H s) : sysModules < s.heap.objs.size := by
  have h : mainGlobals < s.heap.objs.size := (I.mod.glob.keeps I.bk).lt
  exact Nat.lt_trans (by decide) h
theorem d_getItem {Q : Value → Shared → Prop} (hu : A.units + 1 < cLine) (I : Inv X pins σ H s) (g : DGet H a y (some v)) (ry : RelV y u) (h : ∀ w' s', Inv X pins σ H s' → RelV v w' → Q w' s') :
    wpAny (model X.prog X.w) A (getItem (.ref a) u) Q E s := by
  rcases g with ⟨kvs, k, e, ey, l⟩ | ⟨kvs, k, b, e, ey, eb, l⟩
  · subst ey
    obtain ⟨z, hd, vs, rel, dd⟩ := dk_rd I.hok e
    obtain ⟨w', hw, rw'⟩ := RelO.some_of (v := v) (o := valueAt vs k) (by rw [l]; exact rel.val k)
    exact wpAny_getItem_of (kV_is ry) dd.mapOf hw (h w' _ (I.tok _) rw')
  · subst ey
    cases (show u = Value.ref b from ry)
    obtain ⟨z, hd, xs, rel, dd⟩ := dt_rd I.hok e
    obtain ⟨w', hw, rw'⟩ := RelO.some_of (v := v) (o := (atKey xs k).map (·.2)) (by rw [l]; exact rel.val k)
    obtain ⟨p, hp, hp2⟩ := Option.map_eq_some_iff.mp hw
    refine wpAny_getItem_heap (tupleKind_room_in1 hu) (key_of I.hok eb) dd hp ?_
    rw [hp2]
    exact h w' _ (I.tok _) rw'
theorem d_in {Q : Value → Shared → Prop} (hu : A.units + 1 < cLine) (I : Inv X pins σ H s) (g : DGet H a y o) (ry : RelV y u) (h : ∀ s', Inv X pins σ H s' → Q (.bool o.isSome) s') :
    wpAny (model X.prog X.w) A (compareOp .In u (.ref a)) Q E s := by
  rcases g with ⟨kvs, k, e, ey, l⟩ | ⟨kvs, k, b, e, ey, eb, l⟩
  · subst ey
    obtain ⟨z, hd, vs, rel, dd⟩ := dk_rd I.hok e
    refine wpAny_in_of (kV_is ry) hd dd.mapOf ?_
    rw [← (rel.val k).isSome_eq, ← l]
    exact h _ (I.tok _)
  · subst ey
    cases (show u = Value.ref b from ry)
    obtain ⟨z, hd, xs, rel, dd⟩ := dt_rd I.hok e
    refine wpAny_in_heap (tupleKind_room_in1 hu) (key_of I.hok eb) hd dd ?_
    have q := (rel.val k).isSome_eq
    rw [Option.isSome_map] at q
    rw [← q, ← l]
    exact h _ (I.tok _)
theorem d_notIn {Q : Value → Shared → Prop} (hu : A.units + 1 < cLine) (I : Inv X pins σ H s) (g : DGet H a y o) (ry : RelV y u) (h : ∀ s', Inv X pins σ H s' → Q (.bool (!o.isSome)) s') :
    wpAny (model X.prog X.w) A (compareOp .NotIn u (.ref a)) Q E s := by
  rcases g with ⟨kvs, k, e, ey, l⟩ | ⟨kvs, k, b, e, ey, eb, l⟩
  · subst ey
    obtain ⟨z, hd, vs, rel, dd⟩ := dk_rd I.hok e
    refine wpAny_notIn_of (kV_is ry) hd dd.mapOf ?_
    rw [← (rel.val k).isSome_eq, ← l]
    exact h _ (I.tok _)
  · subst ey
    cases (show u = Value.ref b from ry)
    obtain ⟨z, hd, xs, rel, dd⟩ := dt_rd I.hok e
    refine wpAny_notIn_heap (tupleKind_room_in1 hu) (key_of I.hok eb) hd dd ?_
    have q := (rel.val k).isSome_eq
    rw [Option.isSome_map] at q
    rw [← q, ← l]
    exact h _ (I.tok _)
theorem d_write {h' : Heap} {t' : Nat} {ob : HO} (I : Inv X pins σ H s) (mu : Mut (H a)) (hs : Heap.SameBut a s.heap h') (he : ∃ q, h'.get? a = some q) (new : ObjOk X.prog X.w (upd H a ob) h' a ob) :
    Inv X pins σ (upd H a ob) { s with heap := h', toks := t' } :=
  I.write (x := a) (e := a) mu (.inl rfl) (fun b q hb z => (hs.2 b hb).trans z) he new
theorem dk_new {P : Program} {w : World} {H' : Hp} {h' : Heap} {kvs : List (Key × V)} {vs : List (Key × Value)} (z : kvs.length ≤ sizeLine) (hd : (a == sysModules) = false) (rel : KV kvs vs) (dd : h'.DictOf (mixKind P w) a vs) :
    ObjOk P w H' h' a (.dK kvs) := ⟨z, hd, vs, rel, dd⟩
theorem d_setItem {H' : Hp} {Q : Unit → Shared → Prop} (hu : A.units + 1 < cLine) (I : Inv X pins σ H s) (g : DPut H a y v H') (ry : RelV y u) (rv : RelV v r) (h : ∀ s', Inv X pins σ H' s' → Q () s') :
    wpAny (model X.prog X.w) A (setItem (.ref a) u r) Q E s := by
  rcases g with ⟨kvs, k, e, ey, l, eH⟩ | ⟨kvs, k, b, e, ey, eb, l, eH⟩
  · subst ey eH
    obtain ⟨z, hd, vs, rel, dd⟩ := dk_of I.hok e
    have hz : vs.length ≤ sizeLine := by rw [← rel.length]; exact z
    have hl : (putK kvs k v).length ≤ sizeLine := by have := length_putK kvs k v; omega
    refine wpAny_setItem_pairs (hsz := hz) (kV_is ry) dd fun h' dd' hs => h _ ?_
    have he : ∃ q, h'.get? a = some q := let ⟨q, _, _, hq, _⟩ := dd'; ⟨q, hq⟩
    exact d_write I (by rw [e]; exact True.intro) hs he (dk_new hl hd (rel.put k rv) dd')
  · subst ey eH
    cases (show u = Value.ref b from ry)
    obtain ⟨z, hd, xs, rel, dd⟩ := dt_of I.hok e
    have hz : xs.length ≤ sizeLine := by rw [← Paired.length rel]; exact z
    have hl : (putK kvs k v).length ≤ sizeLine := by have := length_putK kvs k v; omega
    refine wpAny_setItem_heap (hsz := hz) (tupleKind_room_in1 hu) (key_of I.hok eb) dd fun h' dd' hs => h _ ?_
    obtain ⟨q, es, ep, hq, h2, h3, h4, _, h5⟩ := dd'
    refine d_write I (by rw [e]; exact True.intro) hs ⟨q, hq⟩ ⟨hl, hd, _, (rel.put k eb rv).keeps fun c ys ec => ?_, q, es, ep, hq, h2, h3, h4, h5⟩
    rw [upd_ne (ne_of ec e (fun z => nomatch z))]
    exact ec
end
section
variable {X : Cx} {pins : List (Addr × Obj)} {σ : St} {H : Hp} {s : Shared} {a : Addr} {kvs : List (Key × V)} {k : Key} {u : Value} {A : Around} {E : Value → Shared → Prop}
theorem d_delItem {Q : Unit → Shared → Prop} (I : Inv X pins σ H s) (e : H a = some (.dK kvs)) (ry : RelV (kV k) u) (l : (valV kvs k).isSome = true) (h : ∀ s', Inv X pins σ (upd H a (.dK (dropK kvs k))) s' → Q () s') :
    wpAny (model X.prog X.w) A (delItem (.ref a) u) Q E s := by
  obtain ⟨z, hd, vs, rel, dd⟩ := dk_of I.hok e
  refine wpAny_delItem_slot dd.typeIs (by decide) PySem.F.slot_dict_delitem
    (call_meetsIn PySem.F.slot_dict_delitem dd.typeIs PySem.F.entry_dict_delitem (PySem.F.args_dict_delitem_2 _ _) (meets_dict_delitem_pairs (mixKind X.prog X.w) a (kV_is ry)) ⟨vs, dd, by rw [← rel.length]; exact z, by rw [← (rel.val k).isSome_eq]; exact l, fun h' dd' hs => h _ ?_⟩)
  have he : ∃ q, h'.get? a = some q := let ⟨q, _, _, hq, _⟩ := dd'; ⟨q, hq⟩
  exact d_write I (by rw [e]; exact True.intro) hs he (dk_new (Nat.le_trans (dropK_le kvs k) z) hd (rel.drop k) dd')
theorem d_pop {v : V} {more : List Value} {Q : Value → Shared → Prop} (I : Inv X pins σ H s) (e : H a = some (.dK kvs)) (ry : RelV (kV k) u) (l : valV kvs k = some v) (hm : more = [] ∨ ∃ x, more = [x])
    (h : ∀ w' s', Inv X pins σ (upd H a (.dK (dropK kvs k))) s' → RelV v w' → Q w' s') : wpAny (model X.prog X.w) A (call (.builtin "dict.pop") (.ref a :: u :: more)) Q E s := by
  obtain ⟨z, hd, vs, rel, dd⟩ := dk_of I.hok e
  obtain ⟨w', hw, rw'⟩ := RelO.some_of (v := v) (o := valueAt vs k) (by rw [← l]; exact rel.val k)
  have hp : (keyPart u).isSome = true := by
    cases k with
    | inl i => obtain ⟨t, q⟩ := (show ∃ t, u = Value.int i t from ry); subst q; rfl
    | inr x => obtain ⟨t, q⟩ := (show ∃ t, u = Value.str x t from ry); subst q; rfl
  have ha : argsOk "dict.pop" ⟨.ref a :: u :: more, []⟩ := by
    rcases hm with q | ⟨x, q⟩
    · subst q; exact PySem.F.args_dict_pop_2 _ _
    · subst q; exact PySem.F.args_dict_pop_3 _ _ _
  refine call_meetsIn PySem.F.slot_dict_pop dd.typeIs PySem.F.entry_dict_pop ha (meets_dict_pop_there (mixKind X.prog X.w) a (kV_is ry) more hm hp)
    ⟨vs, w', dd, by rw [← rel.length]; exact z, hw, fun h' dd' hs => h w' _ ?_ rw'⟩
  have he : ∃ q, h'.get? a = some q := let ⟨q, _, _, hq, _⟩ := dd'; ⟨q, hq⟩
  exact d_write I (by rw [e]; exact True.intro) hs he (dk_new (Nat.le_trans (dropK_le kvs k) z) hd (rel.drop k) dd')
theorem d_popD {r : Value} {Q : Value → Shared → Prop} (I : Inv X pins σ H s) (e : H a = some (.dK kvs)) (ry : RelV (kV k) u) (l : valV kvs k = none) (h : ∀ s', Inv X pins σ H s' → Q r s') :
    wpAny (model X.prog X.w) A (call (.builtin "dict.pop") [.ref a, u, r]) Q E s := by
  obtain ⟨z, hd, vs, rel, dd⟩ := dk_of I.hok e
  have hn : valueAt vs k = none := RelO.none_of (by rw [← l]; exact rel.val k)
  have hp : (keyPart u).isSome = true := by
    cases k with
    | inl i => obtain ⟨t, q⟩ := (show ∃ t, u = Value.int i t from ry); subst q; rfl
    | inr x => obtain ⟨t, q⟩ := (show ∃ t, u = Value.str x t from ry); subst q; rfl
  exact call_meetsIn PySem.F.slot_dict_pop dd.typeIs PySem.F.entry_dict_pop (PySem.F.args_dict_pop_3 _ _ _) (meets_dict_pop_default (mixKind X.prog X.w) a (kV_is ry) hd hp r) ⟨vs, dd, hn, h _ (I.tok _)⟩
theorem d_clear {Q : Value → Shared → Prop} (I : Inv X pins σ H s) (e : H a = some (.dK kvs)) (h : ∀ s', Inv X pins σ (upd H a (.dK [])) s' → Q .none s') : wpAny (model X.prog X.w) A (call (.builtin "dict.clear") [.ref a]) Q E s := by
  obtain ⟨z, hd, vs, rel, dd⟩ := dk_of I.hok e
  refine call_meetsIn PySem.F.slot_dict_clear dd.typeIs PySem.F.entry_dict_clear (PySem.F.args_dict_clear_1 _) (meets_dict_clear (mixKind X.prog X.w) a) ⟨vs, dd, by rw [← rel.length]; exact z, fun h' dd' hs => h _ ?_⟩
  have he : ∃ q, h'.get? a = some q := let ⟨q, _, _, hq, _⟩ := dd'; ⟨q, hq⟩
  exact d_write (t' := s.toks) I (by rw [e]; exact True.intro) hs he (dk_new (Nat.zero_le _) hd .nil dd')
theorem d_len {Q : Value → Shared → Prop} (I : Inv X pins σ H s) (e : Rd H a (.dK kvs)) (h : ∀ t s', Inv X pins σ H s' → Q (.int kvs.length t) s') : wpAny (model X.prog X.w) A (call (.builtin "len") [.ref a]) Q E s := by
  obtain ⟨z, hd, vs, rel, dd⟩ := dk_rd I.hok e
  refine call_len_dict hd dd (by rw [← rel.length]; rw [sizeLine_eq] at z; omega) ?_
  rw [← rel.length]
  exact h _ _ (I.tok _)
theorem d_truth {Q : Bool → Shared → Prop} (I : Inv X pins σ H s) (e : Rd H a (.dK kvs)) (h : ∀ s', Inv X pins σ H s' → Q (!kvs.isEmpty) s') : wpAny (model X.prog X.w) A (truthy (.ref a)) Q E s := by
  obtain ⟨z, hd, vs, rel, dd⟩ := dk_rd I.hok e
  refine wpAny_truthy_dict hd dd (by rw [← rel.length]; rw [sizeLine_eq] at z; omega) ?_
  have q : kvs.isEmpty = vs.isEmpty := by cases rel <;> rfl
  rw [← q]
  exact h _ (I.tok _)
end
def NoSl (i : Expr) : Prop := ∀ ov iv, subscripted i false ov iv = operate [ov, iv] (getItem ov iv)
theorem subD_of {prog : Program} {w : World} {A : Around} {E : Value → Shared → Prop} {s : Shared} {env : Env} {value slice : Expr} {pos : Pos} {T id : String} {Q : Value → Shared → Prop}
    (hl : typeLookup (.type T) "__getitem__" = pure (some (.builtin id))) (hs : NoSl slice)
    (h : wpAny (model prog w) A (eval value env) (fun o s₁ => wpAny (model prog w) A (eval slice env) (fun i s₂ => s₂.TypeIs o T ∧ wpAny (model prog w) A (getItem o i) Q E s₂) E s₁) E s) :
    wpAny (model prog w) A (eval (.Subscript value slice pos) env) Q E s := by
  refine Subscript_ (wpAny_mono h (fun o s₁ h₁ => wpAny_mono h₁ (fun i s₂ h₂ => ?_) fun _ _ x => x) fun _ _ x => x)
  obtain ⟨hT, h₂⟩ := h₂
  unfold subscriptTail
  refine wpAny_bind ?_
  rw [getitemInPython_of_ne hT.not_modules]
  refine wpAny_bind (wpAny_specialOf hT hl ?_)
  have fin : wpAny (model prog w) A (subscripted slice false o i) (fun r s₃ => wpAny (model prog w) A (letTemporaryGo value o r >>= fun _ => pure r) Q E s₃) E s₂ := by
    rw [hs o i]
    exact wpAny_operating (wpAny_mono h₂ (fun r s₃ h₃ => wpAny_bind (wpAny_letTemporaryGo (wpAny_pure h₃))) fun _ _ x => x)
  first
    | exact wpAny_pure (wpAny_bind fin)
    | exact wpAny_bind (wpAny_pure (wpAny_bind fin))
    | exact wpAny_bind fin
theorem dict_typeIs {X : Cx} {pins : List (Addr × Obj)} {σ : St} {H : Hp} {s : Shared} {a : Addr} {y : V} {o : Option V} (I : Inv X pins σ H s) (g : DGet H a y o) : s.TypeIs (.ref a) "dict" := by
  rcases g with ⟨kvs, k, e, _, _⟩ | ⟨kvs, k, b, e, _, _, _⟩
  · obtain ⟨_, _, vs, _, dd⟩ := dk_rd I.hok e
    exact dd.typeIs
  · obtain ⟨_, _, xs, _, dd⟩ := dt_rd I.hok e
    exact dd.typeIs
theorem dict_noDict {X : Cx} {pins : List (Addr × Obj)} {σ : St} {H : Hp} {s : Shared} {a : Addr} {y : V} {o : Option V} (I : Inv X pins σ H s) (g : DGet H a y o) :
    ∀ b, Value.ref a = .ref b → ∃ ob, s.heap.get? b = some ob ∧ ob.dict = none := fun b q => by
  cases q
  rcases g with ⟨kvs, k, e, _, _⟩ | ⟨kvs, k, b, e, _, _, _⟩
  · obtain ⟨_, _, vs, _, ob, _, _, h1, h2, _⟩ := dk_rd I.hok e
    exact ⟨ob, h1, h2.2.1⟩
  · obtain ⟨_, _, xs, _, ob, _, _, h1, h2, _⟩ := dt_rd I.hok e
    exact ⟨ob, h1, h2.2.1⟩
def tDGet (td ty : TE) : TE := fun σ H Q => td σ H fun x H1 => ty σ H1 fun y H2 => ∃ a v, x = .ref a ∧ DGet H2 a y (some v) ∧ Q v H2
def tDIn (ty td : TE) : TE := fun σ H Q => ty σ H fun y H1 => td σ H1 fun x H2 => ∃ a o, x = .ref a ∧ DGet H2 a y o ∧ Q (.bl o.isSome) H2
def tDNotIn (ty td : TE) : TE := fun σ H Q => ty σ H fun y H1 => td σ H1 fun x H2 => ∃ a o, x = .ref a ∧ DGet H2 a y o ∧ Q (.bl (!o.isSome)) H2
def sDPut (td ty tv : TE) : TS := fun D σ H => tv σ H fun v H1 => td σ H1 fun x H2 => ty σ H2 fun y H3 => ∃ a H4, x = .ref a ∧ DPut H3 a y v H4 ∧ D.nx σ H4
def sDAug (td ty tv : TE) (rd : V → V → Hp → VK → Prop) : TS := fun D σ H => td σ H fun x H1 => ty σ H1 fun y H2 => ∃ a v, x = .ref a ∧ DGet H2 a y (some v) ∧
  tv σ H2 fun y2 H3 => rd v y2 H3 fun z H4 => ∃ H5, DPut H4 a y z H5 ∧ D.nx σ H5
def sDDel (td ty : TE) : TS := fun D σ H => td σ H fun x H1 => ty σ H1 fun y H2 => ∃ a kvs k, x = .ref a ∧ H2 a = some (.dK kvs) ∧ y = kV k ∧ (valV kvs k).isSome = true ∧ D.nx σ (upd H2 a (.dK (dropK kvs k)))
section
variable {X : Cx} {o i e value : Expr} {pos pos' tpos : Pos} {td ty tv : TE}
theorem pe_dget (hu : X.A.units + 1 < cLine) (ho : PE X o td) (hi : PE X i ty) (hs : NoSl i) : PE X (.Subscript o i pos) (tDGet td ty) := by
  intro pins s σ H Q I h
  refine subD_of PySem.F.slot_dict_getitem.lookup hs (thn (ho pins s σ H _ I h) fun u s1 ⟨x, H1, I1, rx, q1⟩ => thn (hi pins s1 σ H1 _ I1 q1) fun iv s2 ⟨y, H2, I2, ry, a, v, ex, g, q2⟩ => ?_)
  subst ex
  obtain rfl : u = Value.ref a := rx
  exact ⟨dict_typeIs I2 g, d_getItem hu I2 g ry fun w' s3 I3 rw' => ⟨v, H2, I3, rw', q2⟩⟩
theorem pc_din (hu : X.A.units + 1 < cLine) (hi : PE X i ty) (ho : PE X o td) : PC X .In i o (tDIn ty td) := by
  intro pins s σ H Q I h
  refine thn (hi pins s σ H _ I h) fun iv s1 ⟨y, H1, I1, ry, q1⟩ => thn (ho pins s1 σ H1 _ I1 q1) fun u s2 ⟨x, H2, I2, rx, a, ov, ex, g, q2⟩ => ?_
  subst ex
  obtain rfl : u = Value.ref a := rx
  exact d_in hu I2 g ry fun s3 I3 => ⟨.bl ov.isSome, H2, I3, rfl, q2⟩
theorem pc_dnotin (hu : X.A.units + 1 < cLine) (hi : PE X i ty) (ho : PE X o td) : PC X .NotIn i o (tDNotIn ty td) := by
  intro pins s σ H Q I h
  refine thn (hi pins s σ H _ I h) fun iv s1 ⟨y, H1, I1, ry, q1⟩ => thn (ho pins s1 σ H1 _ I1 q1) fun u s2 ⟨x, H2, I2, rx, a, ov, ex, g, q2⟩ => ?_
  subst ex
  obtain rfl : u = Value.ref a := rx
  exact d_notIn hu I2 g ry fun s3 I3 => ⟨.bl (!ov.isSome), H2, I3, rfl, q2⟩
theorem ps_dput (hu : X.A.units + 1 < cLine) (ho : PE X o td) (hi : PE X i ty) (hv : PE X value tv) (hs : swapsWith value (some (.Subscript o i pos')) pos.line X.env = pure false) :
    PS X (.Assign [.Subscript o i pos'] value pos) (sDPut td ty tv) := by
  intro pins s σ H D I h
  refine wpAny_Assign_Subscript (thn (hv pins s σ H _ I h) fun r s1 ⟨v, H1, I1, rv, q1⟩ => thn (ho pins s1 σ H1 _ I1 q1) fun u s2 ⟨x, H2, I2, rx, q2⟩ => thn (hi pins s2 σ H2 _ I2 q2) fun iv s3 ⟨y, H3, I3, ry, a, H4, ex, g, q3⟩ => ?_) hs
  subst ex
  obtain rfl : u = Value.ref a := rx
  exact d_setItem hu I3 g ry rv fun s4 I4 => ⟨σ, H4, I4, q3⟩
theorem ps_daug {op : Operator} {rd : V → V → Hp → VK → Prop} (hu : X.A.units + 1 < cLine) (ho : PE X o td) (hi : PE X i ty) (hv : PE X value tv) (hop : InOp X op rd)
    (ha : ∀ ov iv new, augStore i ov iv new = (do holding [new, ov, iv] (setItem ov iv new); release [new, ov, iv] []; pure .next)) : PS X (.AugAssign (.Subscript o i tpos) op value pos) (sDAug td ty tv rd) := by
  intro pins s σ H D I h
  refine wpAny_AugAssign_SubscriptAny (thn (ho pins s σ H _ I h) fun u s1 ⟨x, H1, I1, rx, q1⟩ => thn (hi pins s1 σ H1 _ I1 q1) fun iv s2 ⟨y, H2, I2, ry, a, v, ex, g, q2⟩ => ?_) ha
  subst ex
  obtain rfl : u = Value.ref a := rx
  refine d_getItem hu I2 g ry fun w' s3 I3 rw' => thn (hv pins s3 σ H2 _ I3 q2) fun w2 s4 ⟨y2, H3, I4, ry2, q3⟩ => thn (hop pins s4 σ H3 v y2 w' w2 _ I4 rw' ry2 q3) fun w3 s5 ⟨z, H4, I5, rz, H5, g5, q4⟩ => ?_
  exact d_setItem hu I5 g5 ry rz fun s6 I6 => ⟨σ, H5, I6, q4⟩
theorem ps_ddel (ho : PE X o td) (hi : PE X i ty) : PS X (.Delete [.Subscript o i tpos] pos) (sDDel td ty) := by
  intro pins s σ H D I h
  refine wpAny_Delete (wpAny_deleteEach_cons (wpAny_delete_Subscript (thn (ho pins s σ H _ I h) fun u s1 ⟨x, H1, I1, rx, q1⟩ => thn (hi pins s1 σ H1 _ I1 q1) fun iv s2 ⟨y, H2, I2, ry, a, kvs, k, ex, e, ey, l, q2⟩ => ?_)))
  subst ex ey
  obtain rfl : u = Value.ref a := rx
  exact d_delItem I2 e ry l fun s3 I3 => wpAny_deleteEach_nil ⟨σ, _, I3, q2⟩
end
theorem dk_empty {P : Program} {w : World} {H : Hp} (h : Heap) (hb : sysModules < h.objs.size) : ObjOk P w H (h.push { cls := .type "dict", data := .dict #[] }) h.objs.size (.dK []) :=
  ⟨Nat.zero_le _, beq_eq_false_iff_ne.mpr (Ne.symm (Nat.ne_of_lt hb)), [], .nil, Heap.DictOf.new h⟩
theorem dt_empty {P : Program} {w : World} {H : Hp} (h : Heap) (hb : sysModules < h.objs.size) : ObjOk P w H (h.push { cls := .type "dict", data := .dict #[] }) h.objs.size (.dT []) :=
  ⟨Nat.zero_le _, beq_eq_false_iff_ne.mpr (Ne.symm (Nat.ne_of_lt hb)), [], .nil, _, #[], 0, Heap.get?_push_size _ rfl, ⟨rfl, rfl, rfl⟩, rfl, rfl, List.nodup_nil⟩
def tDNewK : TE := fun _ H Q => ∀ p, H p = none → Q (.ref p) (upd H p (.dK []))
def tDNewT : TE := fun _ H Q => ∀ p, H p = none → Q (.ref p) (upd H p (.dT []))
section
variable {X : Cx} {pos : Pos}
theorem pe_dnewK : PE X (.Dict [] [] pos) tDNewK := fun pins s σ H Q I h =>
  wpAny_Dict_empty ⟨.ref s.heap.objs.size, _, I.laid (a := s.heap.objs.size) (o := .dK []) (t' := s.toks) (fun _ _ q => Heap.get?_push_of_some _ q) (Nat.le_refl _) (dk_empty s.heap I.big), rfl, h _ (I.hok.fresh (Nat.le_refl _))⟩
theorem pe_dnewT : PE X (.Dict [] [] pos) tDNewT := fun pins s σ H Q I h =>
  wpAny_Dict_empty ⟨.ref s.heap.objs.size, _, I.laid (a := s.heap.objs.size) (o := .dT []) (t' := s.toks) (fun _ _ q => Heap.get?_push_of_some _ q) (Nat.le_refl _) (dt_empty s.heap I.big), rfl, h _ (I.hok.fresh (Nat.le_refl _))⟩
end
def tPairs : List (TE × TE) → St → Hp → (List (V × V) → Hp → Prop) → Prop
  | [], _, H, Q => Q [] H
  | (tk, tv) :: r, σ, H, Q => tk σ H fun x H1 => tv σ H1 fun y H2 => tPairs r σ H2 fun ps H3 => Q ((x, y) :: ps) H3
abbrev VV : List (V × V) → List (Value × Value) → Prop := Paired fun p q => RelV p.1 q.1 ∧ RelV p.2 q.2
def PPs (X : Cx) (pos : Pos) (keys : List (Option Expr)) (values : List Expr) (trs : List (TE × TE)) : Prop :=
  ∀ (pins : List (Addr × Obj)) (s : Shared) (σ : St) (H : Hp) (Q : List (V × V) → Hp → Prop), Inv X pins σ H s → tPairs trs σ H Q →
    wpAny (model X.prog X.w) X.A (evalPairs (pairTrees keys values X.env pos)) (fun vs s' => ∃ ps H', Inv X pins σ H' s' ∧ VV ps vs ∧ Q ps H') X.xe s
theorem pps_nil {X : Cx} {pos : Pos} : PPs X pos [] [] [] := fun pins s σ H Q I h => pairTrees_nil_walk ⟨[], H, I, .nil, h⟩
theorem pps_cons {X : Cx} {pos : Pos} {k v : Expr} {ks : List (Option Expr)} {vs : List Expr} {tk tv : TE} {trs : List (TE × TE)} (hk : PE X k tk) (hv : PE X v tv) (hr : PPs X pos ks vs trs) :
    PPs X pos (some k :: ks) (v :: vs) ((tk, tv) :: trs) := fun pins s σ H Q I h =>
  pairTrees_cons_walk (thn (hk pins s σ H _ I h) fun u s1 ⟨x, H1, I1, rx, q1⟩ => thn (hv pins s1 σ H1 _ I1 q1) fun w2 s2 ⟨y, H2, I2, ry, q2⟩ =>
    thn (hr pins s2 σ H2 _ I2 q2) fun ws s3 ⟨ps, H3, I3, rel, q3⟩ => ⟨(x, y) :: ps, H3, I3, .cons ⟨rx, ry⟩ rel, q3⟩)
def mergeK (kvs more : List (Key × V)) : List (Key × V) := more.foldl (fun acc kv => putK acc kv.1 kv.2) kvs
theorem KV.merge : ∀ {more : List (Key × V)} {rs : List (Key × Value)} {kvs : List (Key × V)} {vs : List (Key × Value)}, KV more rs → KV kvs vs → KV (mergeK kvs more) (merged vs rs) := by
  intro more rs kvs vs r
  unfold KV at r
  induction r generalizing kvs vs with
  | nil => intro q; exact q
  | @cons p q ps qs h t ih =>
    intro r0
    have e : KV (putK kvs p.1 p.2) (stored vs q.1 q.2) := by
      have := r0.put p.1 h.2
      rw [← h.1]; exact this
    exact ih e
theorem length_mergeK : ∀ (more kvs : List (Key × V)), (mergeK kvs more).length ≤ kvs.length + more.length
  | [], kvs => by show kvs.length ≤ kvs.length + 0; omega
  | p :: r, kvs => by
    have h1 := length_mergeK r (putK kvs p.1 p.2)
    have h2 := length_putK kvs p.1 p.2
    show (mergeK (putK kvs p.1 p.2) r).length ≤ _
    rw [List.length_cons]; omega
theorem carries_of {P : Program} {w : World} : ∀ {kvs : List (Key × V)} {ws : List (Value × Value)}, VV (kvs.map fun kv => (kV kv.1, kv.2)) ws → ∃ rs, Carries (mixKind P w) ws rs ∧ KV kvs rs
  | [], _, r => by rw [List.map_nil] at r; cases r; exact ⟨[], True.intro, .nil⟩
  | p :: kvs, _, r => by
    rw [List.map_cons] at r
    cases r with
    | @cons a b as bs h t =>
      obtain ⟨rs, c, q⟩ := carries_of (P := P) (w := w) t
      obtain ⟨b1, b2⟩ := b
      exact ⟨(p.1, b2) :: rs, ⟨kV_is h.1, rfl, c⟩, .cons ⟨rfl, h.2⟩ q⟩
def tDisp (trs : List (TE × TE)) : TE := fun σ H Q => ∀ p, H p = none → tPairs trs σ (upd H p (.dK [])) fun ps H2 => H2 p = some (.dK []) ∧ ∃ kvs : List (Key × V), ps = kvs.map (fun kv => (kV kv.1, kv.2)) ∧ kvs.length ≤ 15 ∧ Q (.ref p) (upd H2 p (.dK (mergeK [] kvs)))
theorem pe_disp {X : Cx} {pos : Pos} {keys : List (Option Expr)} {values : List Expr} {trs : List (TE × TE)} (h : PPs X pos keys values trs) (hall : keys.all (·.isSome) = true) (hl : keys.length = values.length) (h0 : keys ≠ [])
    (h15 : keys.length ≤ 15) : PE X (.Dict keys values pos) (tDisp trs) := by
  intro pins s σ H Q I q
  have hn := I.hok.fresh (Nat.le_refl s.heap.objs.size)
  have I1 := I.laid (a := s.heap.objs.size) (o := .dK []) (h' := s.heap.push { cls := .type "dict", data := .dict #[] }) (t' := s.toks) (fun _ _ q => Heap.get?_push_of_some _ q) (Nat.le_refl _) (dk_empty s.heap I.big)
  refine wpAny_Dict_walk (knd := mixKind X.prog X.w) hall hl h0 h15 (thn (h pins _ σ _ _ I1 (q _ hn)) fun ws s2 ⟨ps, H2, I2, rel, e, kvs, ep, lk, q2⟩ => ?_)
  subst ep
  obtain ⟨rs, c, rk⟩ := carries_of (P := X.prog) (w := X.w) rel
  obtain ⟨z, hd, vs0, r0, dd⟩ := dk_of I2.hok e
  cases r0
  refine ⟨rs, c, dd, fun h' dd' hs => ⟨.ref s.heap.objs.size, _, ?_, rfl, q2⟩⟩
  have hz : (mergeK [] kvs).length ≤ sizeLine := by
    have h1 := length_mergeK kvs []
    rw [List.length_nil] at h1
    rw [sizeLine_eq]; omega
  have he : ∃ q, h'.get? s.heap.objs.size = some q := let ⟨q, _, _, hq, _⟩ := dd'; ⟨q, hq⟩
  exact d_write I2 (by rw [e]; exact True.intro) hs he (dk_new hz hd (rk.merge .nil) dd')
structure M1 (X : Cx) (o : Expr) (m : Str) (apos : Pos) (e : Expr) (cpos : Pos) : Prop where
  base : attributeBase o m X.env (eval o X.env) = eval o X.env
  few : ((backTo cpos (starEach [e] X.env)).all (fun x => !x.1) && (backToKw cpos (keywordEach [] X.env)).all (fun x => x.1.isSome)
    && decide (([e] : List Expr).length + ([] : List Keyword).length + (if ([] : List Keyword).isEmpty then 0 else 1) < 30)) = true
  line : (apos.endLine == cpos.line) = true
  trees : backTo cpos (starEach [e] X.env) = [(false, eval e X.env)]
structure M2 (X : Cx) (o : Expr) (m : Str) (apos : Pos) (e f : Expr) (cpos : Pos) : Prop where
  base : attributeBase o m X.env (eval o X.env) = eval o X.env
  few : ((backTo cpos (starEach [e, f] X.env)).all (fun x => !x.1) && (backToKw cpos (keywordEach [] X.env)).all (fun x => x.1.isSome)
    && decide (([e, f] : List Expr).length + ([] : List Keyword).length + (if ([] : List Keyword).isEmpty then 0 else 1) < 30)) = true
  line : (apos.endLine == cpos.line) = true
  trees : backTo cpos (starEach [e, f] X.env) = [(false, eval e X.env), (false, eval f X.env)]
def IsD (H : Hp) (a : Addr) : Prop := (∃ kvs, Rd H a (.dK kvs)) ∨ ∃ kvs, Rd H a (.dT kvs)
theorem isD_at {X : Cx} {pins : List (Addr × Obj)} {σ : St} {H : Hp} {s : Shared} {a : Addr} (I : Inv X pins σ H s) (d : IsD H a) :
    s.TypeIs (.ref a) "dict" ∧ (∀ b, Value.ref a = .ref b → ∃ ob, s.heap.get? b = some ob ∧ ob.dict = none) ∧ (a == sysModules) = false := by
  rcases d with ⟨kvs, e⟩ | ⟨kvs, e⟩
  · obtain ⟨_, hd, vs, _, dd⟩ := dk_rd I.hok e
    refine ⟨dd.typeIs, fun b q => ?_, hd⟩
    cases q
    obtain ⟨ob, _, _, h1, h2, _⟩ := dd
    exact ⟨ob, h1, h2.2.1⟩
  · obtain ⟨_, hd, xs, _, dd⟩ := dt_rd I.hok e
    refine ⟨dd.typeIs, fun b q => ?_, hd⟩
    cases q
    obtain ⟨ob, _, _, h1, h2, _⟩ := dd
    exact ⟨ob, h1, h2.2.1⟩
section
variable {X : Cx} {pins : List (Addr × Obj)} {σ : St} {H : Hp} {s : Shared} {a : Addr} {y d : V} {u r : Value} {o : Option V} {A : Around} {E : Value → Shared → Prop}
theorem d_get1 {Q : Value → Shared → Prop} (hu : A.units + 1 < cLine) (I : Inv X pins σ H s) (g : DGet H a y o) (ry : RelV y u) (h : ∀ w' s', Inv X pins σ H s' → RelV (o.getD .non) w' → Q w' s') :
    wpAny (model X.prog X.w) A (call (.builtin "dict.get") [.ref a, u]) Q E s := by
  rcases g with ⟨kvs, k, e, ey, l⟩ | ⟨kvs, k, b, e, ey, eb, l⟩
  · subst ey
    obtain ⟨z, hd, vs, rel, dd⟩ := dk_rd I.hok e
    refine call_meetsIn PySem.F.slot_dict_get dd.typeIs PySem.F.entry_dict_get (PySem.F.args_dict_get_2 _ _) (meets_dict_get (mixKind X.prog X.w) a (kV_is ry) hd) ⟨_, dd.mapOf, h _ _ (I.tok _) ?_⟩
    rw [l]
    exact (rel.val k).getD rfl
  · subst ey
    cases (show u = Value.ref b from ry)
    obtain ⟨z, hd, xs, rel, dd⟩ := dt_rd I.hok e
    refine call_meetsIn PySem.F.slot_dict_get dd.typeIs PySem.F.entry_dict_get (PySem.F.args_dict_get_2 _ _) (meetsH_dict_get (tupleKind (mixKind X.prog X.w)) a b hd) ⟨tupleKind_room_in1 hu, k, xs, key_of I.hok eb, dd, h _ _ (I.tok _) ?_⟩
    rw [l]
    exact (rel.val k).getD rfl
theorem d_get2 {Q : Value → Shared → Prop} (hu : A.units + 1 < cLine) (I : Inv X pins σ H s) (g : DGet H a y o) (ry : RelV y u) (rd : RelV d r) (h : ∀ w' s', Inv X pins σ H s' → RelV (o.getD d) w' → Q w' s') :
    wpAny (model X.prog X.w) A (call (.builtin "dict.get") [.ref a, u, r]) Q E s := by
  rcases g with ⟨kvs, k, e, ey, l⟩ | ⟨kvs, k, b, e, ey, eb, l⟩
  · subst ey
    obtain ⟨z, hd, vs, rel, dd⟩ := dk_rd I.hok e
    refine call_meetsIn PySem.F.slot_dict_get dd.typeIs PySem.F.entry_dict_get (PySem.F.args_dict_get_3 _ _ _) (meets_dict_get_default (mixKind X.prog X.w) a (kV_is ry) hd r) ⟨_, dd.mapOf, h _ _ (I.tok _) ?_⟩
    rw [l]
    exact (rel.val k).getD rd
  · subst ey
    cases (show u = Value.ref b from ry)
    obtain ⟨z, hd, xs, rel, dd⟩ := dt_rd I.hok e
    refine call_meetsIn PySem.F.slot_dict_get dd.typeIs PySem.F.entry_dict_get (PySem.F.args_dict_get_3 _ _ _) (meetsH_dict_get_default (tupleKind (mixKind X.prog X.w)) a b hd r) ⟨tupleKind_room_in1 hu, k, xs, key_of I.hok eb, dd, h _ _ (I.tok _) ?_⟩
    rw [l]
    exact (rel.val k).getD rd
end
def tDGet1 (td ty : TE) : TE := fun σ H Q => td σ H fun x H1 => ∃ a, x = .ref a ∧ IsD H1 a ∧ ty σ H1 fun y H2 => ∃ o, DGet H2 a y o ∧ Q (o.getD .non) H2
def tDGet2 (td ty tx : TE) : TE := fun σ H Q => td σ H fun x H1 => ∃ a, x = .ref a ∧ IsD H1 a ∧ ty σ H1 fun y H2 => tx σ H2 fun z H3 => ∃ o, DGet H3 a y o ∧ Q (o.getD z) H3
def tDPop1 (td ty : TE) : TE := fun σ H Q => td σ H fun x H1 => ∃ a, x = .ref a ∧ IsD H1 a ∧ ty σ H1 fun y H2 => ∃ kvs k v, H2 a = some (.dK kvs) ∧ y = kV k ∧ valV kvs k = some v ∧ Q v (upd H2 a (.dK (dropK kvs k)))
def tDPop2 (td ty tx : TE) : TE := fun σ H Q => td σ H fun x H1 => ∃ a, x = .ref a ∧ IsD H1 a ∧ ty σ H1 fun y H2 => tx σ H2 fun z H3 => ∃ kvs k, H3 a = some (.dK kvs) ∧ y = kV k ∧
  (∀ v, valV kvs k = some v → Q v (upd H3 a (.dK (dropK kvs k)))) ∧ (valV kvs k = none → Q z H3)
section
variable {X : Cx} {o e f : Expr} {apos cpos : Pos} {td ty tx : TE}
theorem pe_dget1 (hu : X.A.units + 1 < cLine) (ho : PE X o td) (he : PE X e ty) (m : M1 X o "get" apos e cpos) : PE X (.Call (.Attribute o "get" apos) [e] [] cpos) (tDGet1 td ty) := by
  intro pins s σ H Q I h
  refine wpAny_Call_method m.base m.few m.line PySem.F.plainAttrs_dict PySem.F.slot_dict_get PySem.F.type_dict_get (thn (ho pins s σ H _ I h) fun u s1 ⟨x, H1, I1, rx, a, ex, d, q1⟩ => ?_)
  subst ex
  obtain rfl : u = Value.ref a := rx
  obtain ⟨t1, t2, _⟩ := isD_at I1 d
  refine ⟨t1, t2, ?_⟩
  rw [m.trees]
  refine Calls.callWith_builtin rfl (Calls.evalArgs_plain (Calls.spliced_cons (thn (he pins s1 σ H1 _ I1 q1) fun iv s2 ⟨y, H2, I2, ry, ov, g, q2⟩ => Calls.spliced_nil ?_)))
  exact d_get1 hu I2 g ry fun w' s3 I3 rw' => ⟨_, H2, I3, rw', q2⟩
theorem pe_dget2 (hu : X.A.units + 1 < cLine) (ho : PE X o td) (he : PE X e ty) (hf : PE X f tx) (m : M2 X o "get" apos e f cpos) : PE X (.Call (.Attribute o "get" apos) [e, f] [] cpos) (tDGet2 td ty tx) := by
  intro pins s σ H Q I h
  refine wpAny_Call_method m.base m.few m.line PySem.F.plainAttrs_dict PySem.F.slot_dict_get PySem.F.type_dict_get (thn (ho pins s σ H _ I h) fun u s1 ⟨x, H1, I1, rx, a, ex, d, q1⟩ => ?_)
  subst ex
  obtain rfl : u = Value.ref a := rx
  obtain ⟨t1, t2, _⟩ := isD_at I1 d
  refine ⟨t1, t2, ?_⟩
  rw [m.trees]
  refine Calls.callWith_builtin rfl (Calls.evalArgs_plain (Calls.spliced_cons (thn (he pins s1 σ H1 _ I1 q1) fun iv s2 ⟨y, H2, I2, ry, q2⟩ =>
    Calls.spliced_cons (thn (hf pins s2 σ H2 _ I2 q2) fun fv s3 ⟨z, H3, I3, rz, ov, g, q3⟩ => Calls.spliced_nil ?_))))
  exact d_get2 hu I3 g ry rz fun w' s4 I4 rw' => ⟨_, H3, I4, rw', q3⟩
theorem pe_dpop1 (ho : PE X o td) (he : PE X e ty) (m : M1 X o "pop" apos e cpos) : PE X (.Call (.Attribute o "pop" apos) [e] [] cpos) (tDPop1 td ty) := by
  intro pins s σ H Q I h
  refine wpAny_Call_method m.base m.few m.line PySem.F.plainAttrs_dict PySem.F.slot_dict_pop PySem.F.type_dict_pop (thn (ho pins s σ H _ I h) fun u s1 ⟨x, H1, I1, rx, a, ex, d, q1⟩ => ?_)
  subst ex
  obtain rfl : u = Value.ref a := rx
  obtain ⟨t1, t2, _⟩ := isD_at I1 d
  refine ⟨t1, t2, ?_⟩
  rw [m.trees]
  refine Calls.callWith_builtin rfl (Calls.evalArgs_plain (Calls.spliced_cons (thn (he pins s1 σ H1 _ I1 q1) fun iv s2 ⟨y, H2, I2, ry, kvs, k, v, ea, ey, l, q2⟩ => Calls.spliced_nil ?_)))
  subst ey
  exact d_pop I2 ea ry l (.inl rfl) fun w' s3 I3 rw' => ⟨v, _, I3, rw', q2⟩
theorem pe_dpop2 (ho : PE X o td) (he : PE X e ty) (hf : PE X f tx) (m : M2 X o "pop" apos e f cpos) : PE X (.Call (.Attribute o "pop" apos) [e, f] [] cpos) (tDPop2 td ty tx) := by
  intro pins s σ H Q I h
  refine wpAny_Call_method m.base m.few m.line PySem.F.plainAttrs_dict PySem.F.slot_dict_pop PySem.F.type_dict_pop (thn (ho pins s σ H _ I h) fun u s1 ⟨x, H1, I1, rx, a, ex, d, q1⟩ => ?_)
  subst ex
  obtain rfl : u = Value.ref a := rx
  obtain ⟨t1, t2, _⟩ := isD_at I1 d
  refine ⟨t1, t2, ?_⟩
  rw [m.trees]
  refine Calls.callWith_builtin rfl (Calls.evalArgs_plain (Calls.spliced_cons (thn (he pins s1 σ H1 _ I1 q1) fun iv s2 ⟨y, H2, I2, ry, q2⟩ =>
    Calls.spliced_cons (thn (hf pins s2 σ H2 _ I2 q2) fun fv s3 ⟨z, H3, I3, rz, kvs, k, ea, ey, q3, q4⟩ => Calls.spliced_nil ?_))))
  subst ey
  cases l : valV kvs k with
  | some v => exact d_pop I3 ea ry l (.inr ⟨fv, rfl⟩) fun w' s4 I4 rw' => ⟨v, _, I4, rw', q3 v l⟩
  | none => exact d_popD I3 ea ry l fun s4 I4 => ⟨z, H3, I4, rz, q4 l⟩
end
section
variable {X : Cx} {pins : List (Addr × Obj)} {σ : St} {H : Hp} {s : Shared} {a : Addr} {kvs : List (Key × V)} {A : Around} {E : Value → Shared → Prop}
theorem d_copyOf {Q : Value → Shared → Prop} (I : Inv X pins σ H s) (e : Rd H a (.dK kvs)) (h : ∀ p s', H p = none → Inv X pins σ (upd H p (.dK kvs)) s' → Q (.ref p) s') : wpAny (model X.prog X.w) A (call (.type "dict") [.ref a]) Q E s := by
  obtain ⟨z, hd, vs, rel, dd⟩ := dk_rd I.hok e
  refine kt_call_dict hd dd (by rw [← rel.length]; exact z) fun h' dd' hs => ?_
  refine h _ _ (I.hok.fresh (Nat.le_refl _)) (I.laid (a := s.heap.objs.size) (o := .dK kvs) (t' := s.toks) (fun b q hq => ?_) (Nat.le_refl _) (dk_new z (beq_eq_false_iff_ne.mpr (Ne.symm (Nat.ne_of_lt I.big))) rel dd'))
  exact (hs.2 b (Nat.ne_of_lt (Heap.lt_size hq))).trans (Heap.get?_push_of_some _ hq)
end
section
variable {X : Cx} {pins : List (Addr × Obj)} {σ : St} {H : Hp} {s : Shared} {a : Addr} {y : V} {u : Value} {A : Around} {E : Value → Shared → Prop}
theorem d_missing {Q : Value → Shared → Prop} (hu : A.units + 1 < cLine) (hh : A.handled = none) (I : Inv X pins σ H s) (g : DGet H a y none) (ry : RelV y u)
    (h : ∀ h' e t', Heap.NewExc s.heap h' e "KeyError" → E (.ref e) { s with heap := h', toks := t' }) : wpAny (model X.prog X.w) A (getItem (.ref a) u) Q E s := by
  rcases g with ⟨kvs, k, e, ey, l⟩ | ⟨kvs, k, b, e, ey, eb, l⟩
  · subst ey
    obtain ⟨z, hd, vs, rel, dd⟩ := dk_rd I.hok e
    have hn : valueAt vs k = none := RelO.none_of (by rw [l]; exact rel.val k)
    exact wpAny_getItem_missing_of (kV_is ry) hd hh dd.mapOf hn fun h' ex ne => h h' ex _ ne
  · subst ey
    cases (show u = Value.ref b from ry)
    obtain ⟨z, hd, xs, rel, dd⟩ := dt_rd I.hok e
    have hn : (atKey xs k).map (·.2) = none := RelO.none_of (by rw [l]; exact rel.val k)
    exact wpAny_getItem_missing_heap (tupleKind_room_in1 hu) (key_of I.hok eb) hd hh dd (Option.map_eq_none_iff.mp hn) fun h' ex ne => h h' ex _ ne
end
end L2
namespace Att
open PySem PySem.W PySem.Calls PyProof.Rows
theorem ints_of_wellAll {P : Params} {h : Heap} : ∀ (ns : List Int) (vs : List Value), WellAll P h vs (ns.map WData.int) → IntsAre vs ns := by
  intro ns
  induction ns with
  | nil =>
    intro vs w
    rw [List.map_nil] at w
    cases w
    exact .nil
  | cons n ns ih =>
    intro vs w
    rw [List.map_cons] at w
    cases w with
    | cons a b =>
      cases a
      exact .cons _ _ (ih _ b)
theorem script_of {l : OpenLaw} {n : Nat} (hn : l.most = some n) {P : Params} {h : Heap} {args : List WData} {vals : List Value}
    (hpre : l.row.toRowW.claim.pre args = true) (hwl : WellAll P h vals args) :
    ∃ a vs ns, vals = [Value.ref a] ∧ args = [WData.list (ns.map WData.int)] ∧ h.get? a = some { cls := .type "list", data := .seq vs.toArray } ∧ IntsAre vs ns ∧ ns.length ≤ n := by
  have hsh : WShape.hasAll [] args [.list .int] = true := (pre_splitW hpre).1
  have hc : l.pre.holds [] { args := args } = true := (pre_splitW hpre).2
  obtain ⟨d, r, rfl, h1, h2⟩ := hasAllW_cons hsh
  obtain rfl := hasAllW_nil h2
  obtain ⟨xs, rfl, h3⟩ := hasW_list h1
  obtain ⟨ns, rfl⟩ := items_int h3
  have hlen : ns.length ≤ n := by
    unfold OpenLaw.pre at hc
    have h4 : (WTm.not (.lt (.lit (.int (n : Int))) (.len (.arg 0)))).holds [] { args := [.list (ns.map .int)] } = true := by
      have h4 := (holds_andW hc).1
      rw [hn] at h4
      exact h4
    have h5 := condW_of h4 (w_not (w_lt w_lit (w_len_list (w_arg rfl))))
    rw [List.length_map] at h5
    refine Nat.le_of_not_lt fun q => ?_
    have q' : (n : Int) < ((ns.length : Nat) : Int) := by omega
    first
      | (rw [decide_eq_true q'] at h5; exact absurd h5 (by decide))
      | (simp at h5; omega)
  cases hwl with
  | cons w1 w2 =>
    cases w2
    cases w1 with
    | list ho hall => exact ⟨_, _, ns, rfl, rfl, ho, ints_of_wellAll ns _ hall, hlen⟩
theorem post_true (l : OpenLaw) (args : List WData) : l.row.toRowW.claim.post args (.bool true) args = true :=
  postW_of (r := l.row.toRowW) (X := (true == true))
    (show WShape.has [] (.bool true) .bool = true by first | rfl | decide | simp [WShape.has, WShape.arms, WShape.armsAll])
    (show (WTm.eq .res (.lit (.bool true))).value [] { args := args, res := some (.bool true), after := args } = some (.bool (true == true)) from w_eq_bool (w_res rfl) w_lit) rfl
theorem attach {l : OpenLaw} {n : Nat} {q : Program} {loose : List Str} {XP : (Str → Option Value) → Heap → Prop} {YP : World → Heap → Prop} {d : DefRec} {x : Str}
    (hn : l.most = some n) (hdf : d.params.defaults = [])
    (hbind : ∀ pm cd doc v : Value, bindArgs (docDef d.name d.params d.body d.scope pm cd doc) ⟨[v], []⟩ = pure [(x, v)])
    (hx : d.scope.names.lookup x = some .local ∨ d.scope.names.lookup x = some .cell)
    (hk : d.scope.kind = .function) (hco : d.scope.isCoroutine = false) (hgen : d.scope.isGenerator = false)
    (body : ∀ (w : World) (s₀ s₁ s : Shared) (mg mb : Str → Option Value) (fa : Addr) (o : Obj) (pm cd doc : Value) (a : Addr) (vs : List Value) (ns : List Int),
      Ground q loose [] XP w s₀ mg mb s₁.heap → YP w s₁.heap →
      s₁.heap.get? fa = some o → o.data = .func (docDef d.name d.params d.body d.scope pm cd doc) → s₁.heap.CodeRec cd d.name → mg d.name = some (.ref fa) →
      s₁.heap.get? a = some { cls := .type "list", data := .seq vs.toArray } → IntsAre vs ns → ns.length ≤ n →
      s.gens = #[] → s.os = s₁.os →
      Fr s₁.heap s₁.heap.objs.size s.heap (bindL (envOfC d.name d.scope s₁.heap.objs.size fa cd).kindOf [(x, .ref a)] fun _ => none) →
      Cl s₁.heap.objs.size (cellsFrom (s₁.heap.objs.size + 1) d.scope.names []) s.heap (bindC (envOfC d.name d.scope s₁.heap.objs.size fa cd).kindOf [(x, .ref a)] fun _ => none) →
      wpAny (model l.prog w) (callerA.deeper (envOfC d.name d.scope s₁.heap.objs.size fa cd)) (execs d.body (envOfC d.name d.scope s₁.heap.objs.size fa cd))
        (fun f s' => f = .ret (.bool true) ∧ OldK s₁.heap s'.heap ∧ s'.os = s₁.os ∧ AllBare s'.gens) (fun _ _ => False) s) :
    WalkO q loose XP YP l.row.toRowW d [] (fun f vs => PySem.call f vs) := by
  intro w s₀ s₁ mg mb G Y fa o pm cd doc dV kV ho hd hcd hD hmg hg args vals as hpre hlay hrd hwl hlo
  obtain rfl : dV = .none := Dflts.none hD hdf
  obtain rfl : kV = .none := Dflts.noKw hD
  obtain ⟨a, vs, ns, rfl, rfl, hobj, hints, hlen⟩ := script_of hn hpre hwl
  refine enter_call ?_
  refine call_cells_ret (o := o) (by rw [depth_caller]; decide) ho (fd_plain hd) G.T.nolimit hcd (hbind pm cd doc (.ref a)) (fun y hy => ?_) (fun h₁ tk F X => ?_) hco hgen hk
  · obtain rfl : y = (x, Value.ref a) := List.mem_singleton.mp hy
    rcases hx with e | e
    · exact .inl e
    · exact .inr ⟨e, cellsFrom_some _ _ _ (.inl e)⟩
  · refine wpAny_mono (body w s₀ s₁ { s₁ with heap := h₁, toks := tk } mg mb fa o pm cd doc a vs ns G Y ho (fd_plain hd) hcd hmg hobj hints hlen hg rfl F X) (fun f s' hq => ?_) (fun _ _ hq => hq)
    obtain ⟨rfl, h2, h3, h4⟩ := hq
    exact ⟨.inl ⟨.bool true, .bool true, [], rfl, fun _ => rfl, .bool true, post_true l _, fun _ => ⟨List.Pairwise.nil, fun _ hm => (nomatch hm)⟩⟩, h2, h3, h4⟩
theorem attach_call {l : OpenLaw} {n : Nat} {q : Program} {loose : List Str} {XP : (Str → Option Value) → Heap → Prop} {YP : World → Heap → Prop} {d : DefRec}
    (hn : l.most = some n) (hdf : d.params.defaults = [])
    (call : ∀ (w : World) (s₀ s₁ : Shared) (mg mb : Str → Option Value) (fa : Addr) (o : Obj) (pm cd doc : Value) (a : Addr) (vs : List Value) (ns : List Int),
      Ground q loose [] XP w s₀ mg mb s₁.heap → YP w s₁.heap →
      s₁.heap.get? fa = some o → o.data = .func (docDef d.name d.params d.body d.scope pm cd doc) → s₁.heap.CodeRec cd d.name → mg d.name = some (.ref fa) →
      s₁.heap.get? a = some { cls := .type "list", data := .seq vs.toArray } → IntsAre vs ns → ns.length ≤ n → s₁.gens = #[] →
      codeAny (model l.prog w) callerA (.call (.ref fa) ⟨[.ref a], []⟩) (fun r s' => r = .ok (.ret (.bool true)) ∧ OldK s₁.heap s'.heap ∧ s'.os = s₁.os ∧ AllBare s'.gens) s₁) :
    WalkO q loose XP YP l.row.toRowW d [] (fun f vs => PySem.call f vs) := by
  intro w s₀ s₁ mg mb G Y fa o pm cd doc dV kV ho hd hcd hD hmg hg args vals as hpre hlay hrd hwl hlo
  obtain rfl : dV = .none := Dflts.none hD hdf
  obtain rfl : kV = .none := Dflts.noKw hD
  obtain ⟨a, vs, ns, rfl, rfl, hobj, hints, hlen⟩ := script_of hn hpre hwl
  refine enter_call (codeAny_mono (call w s₀ s₁ mg mb fa o pm cd doc a vs ns G Y ho (fd_plain hd) hcd hmg hobj hints hlen hg) fun r s' hq => ?_)
  obtain ⟨rfl, h2, h3, h4⟩ := hq
  exact ⟨.inl ⟨.bool true, .bool true, [], rfl, fun _ => rfl, .bool true, post_true l _, fun _ => ⟨List.Pairwise.nil, fun _ hm => (nomatch hm)⟩⟩, h2, h3, h4⟩
theorem attachN {l : OpenLaw} {n : Nat} {q : Program} {loose : List Str} {XP : (Str → Option Value) → Heap → Prop} {YP : World → Heap → Prop} {d : DefRec} {x : Str}
    (hn : l.most = some n) (hdf : d.params.defaults = [])
    (hbind : ∀ pm cd doc v : Value, bindArgs (docDef d.name d.params d.body d.scope pm cd doc) ⟨[v], []⟩ = pure [(x, v)])
    (hx : d.scope.names.lookup x = some .local ∨ d.scope.names.lookup x = some .cell)
    (hk : d.scope.kind = .function) (hco : d.scope.isCoroutine = false) (hgen : d.scope.isGenerator = false)
    (body : ∀ (w : World) (s₀ s₁ s : Shared) (mg mb : Str → Option Value) (fa : Addr) (o : Obj) (pm cd doc : Value) (a : Addr) (vs : List Value) (ns : List Int),
      Ground q loose [] XP w s₀ mg mb s₁.heap → YP w s₁.heap →
      s₁.heap.get? fa = some o → o.data = .func (docDef d.name d.params d.body d.scope pm cd doc) → s₁.heap.CodeRec cd d.name → mg d.name = some (.ref fa) →
      s₁.heap.get? a = some { cls := .type "list", data := .seq vs.toArray } → IntsAre vs ns → ns.length ≤ n →
      s.gens = #[] → s.os = s₁.os →
      Fr s₁.heap s₁.heap.objs.size s.heap (bindL (envOfC d.name d.scope s₁.heap.objs.size fa cd).kindOf [(x, .ref a)] fun _ => none) →
      Cl s₁.heap.objs.size (cellsFrom (s₁.heap.objs.size + 1) d.scope.names []) s.heap (bindC (envOfC d.name d.scope s₁.heap.objs.size fa cd).kindOf [(x, .ref a)] fun _ => none) →
      wpAny (model l.prog w) (callerA.deeper (envOfC d.name d.scope s₁.heap.objs.size fa cd)) (execs d.body (envOfC d.name d.scope s₁.heap.objs.size fa cd))
        (fun f s' => f = .ret (.bool true) ∧ (∀ b o, s₁.heap.get? b = some o → s'.heap.get? b = some o) ∧ s'.os = s₁.os ∧ s'.gens = #[]) (fun _ _ => False) s) :
    WalkN q loose XP YP l.row.toRowW d [] (fun f vs => PySem.call f vs) := by
  intro w s₀ s₁ mg mb G Y fa o pm cd doc dV kV ho hd hcd hD hmg hg args vals as hpre hlay hrd hwl hlo
  obtain rfl : dV = .none := Dflts.none hD hdf
  obtain rfl : kV = .none := Dflts.noKw hD
  obtain ⟨a, vs, ns, rfl, rfl, hobj, hints, hlen⟩ := script_of hn hpre hwl
  refine enter_callW ?_
  refine call_cells_ret (o := o) (by rw [depth_caller]; decide) ho (fd_plain hd) G.T.nolimit hcd (hbind pm cd doc (.ref a)) (fun y hy => ?_) (fun h₁ tk F X => ?_) hco hgen hk
  · obtain rfl : y = (x, Value.ref a) := List.mem_singleton.mp hy
    rcases hx with e | e
    · exact .inl e
    · exact .inr ⟨e, cellsFrom_some _ _ _ (.inl e)⟩
  · refine wpAny_mono (body w s₀ s₁ { s₁ with heap := h₁, toks := tk } mg mb fa o pm cd doc a vs ns G Y ho (fd_plain hd) hcd hmg hobj hints hlen hg rfl F X) (fun f s' hq => ?_) (fun _ _ hq => hq)
    obtain ⟨rfl, h2, h3, h4⟩ := hq
    exact ⟨.inl ⟨.bool true, .bool true, [], rfl, fun _ => rfl, .bool true, post_true l _, fun _ => ⟨List.Pairwise.nil, fun _ hm => (nomatch hm)⟩⟩, h2, h3, h4⟩
section
variable {prog : Program} {w : World} {A : Around} {E : Value → Shared → Prop} {s : Shared} {K : Frag}
theorem call_fn {R : Result → Shared → Prop} {name qual : Str} {params : Arguments} {body : List Stmt} {scope : Scope} {dV kV doc pm cdv ct oc : Value} {an od : Option Addr} {osl : Array (Option Value)} {f : Addr} {args : Args} {binds : List (Str × Value)}
    (X : K.In s.heap) (hlim : s.heap.NoLimit) (ho : K.lookup f = some ⟨oc, od, .func (fnOf name qual params body scope dV kV doc pm an cdv ct), osl⟩) (hcd : codeIn K cdv qual = true) (hroom : A.depth < recursionLimit)
    (hbind : BindsTo s (fnOf name qual params body scope dV kV doc pm an cdv ct) args binds)
    (hkind : (binds.all fun y => scope.names.lookup y.1 == some .local || scope.names.lookup y.1 == some .cell) = true)
    (h : ∀ s₁, InCallC s s.heap.objs.size (bindL (envOfC qual scope s.heap.objs.size f cdv).kindOf binds fun _ => none) (cellsFrom (s.heap.objs.size + 1) scope.names [])
        (bindC (envOfC qual scope s.heap.objs.size f cdv).kindOf binds fun _ => none) s₁ →
      wpAny (model prog w) (A.deeper (envOfC qual scope s.heap.objs.size f cdv)) (execs body (envOfC qual scope s.heap.objs.size f cdv))
        (fun fl s' => R (.ok (.ret (match fl with | .ret v => v | _ => .none))) s')
        (fun e s' => wpAny (model prog w) (A.deeper (envOfC qual scope s.heap.objs.size f cdv)) (leaving (envOfC qual scope s.heap.objs.size f cdv) e) (fun _ s'' => R (.error e) s'') (fun e' s'' => R (.error e') s'') s') s₁)
    (hco : scope.isCoroutine = false) (hgen : scope.isGenerator = false) (hk : scope.kind = .function) : codeAny (model prog w) A (.call (.ref f) args) R s := by
  refine codeAny_call_function hroom (X _ _ ho) rfl hco hgen rfl (codeRec_of X hcd) (hbind _ _ _ _ ?_)
  refine wpAny_newFunctionEnv_cells hk (kindsX hkind _) fun env he s₁ x => ?_
  subst he
  exact ⟨hlim.keeps x.toInCall.keep, codeAny_func (h s₁ x)⟩
theorem make_obj {R : Result → Shared → Prop} {C fI : Addr} {rest : List Value} {kw : List (Str × Value)}
    (X : K.In s.heap) (hm : makesIn K C = true) (hi : findIn K (.ref C) "__init__" = some (some (.ref fI))) (hf : isFn K (.ref fI) = true)
    (h : codeAny (model prog w) (A.under (.builtin "type.__call__" ⟨.ref C :: rest, kw⟩)) (.call (.ref fI) ⟨.ref (s.heap.objs.size + 1) :: rest, kw⟩) (InitBack (s.heap.objs.size + 1) R)
      { s with heap := (s.heap.push emptyDict).push (instObj C s.heap.objs.size) }) : codeAny (model prog w) A (.call (.ref C) ⟨rest, kw⟩) R s := by
  obtain ⟨hh, g, d, t, os⟩ := s
  exact make_core (makes_of X hm) (looks_findIn X hi) (fun self => bind_fn X self (beq_iff_eq.mp hf)) (.inl rfl) h
theorem get_field {x C : Addr} {ox : Obj} {es : List DictEntry} {n : Nat} {name : Str} {expr : Bool} {v : Value} {Q : Value → Shared → Prop}
    (X : K.In s.heap) (I : PySem.W.InstAt s.heap x ox C (some (dictOf es n))) (hg : plainGet K C name = true) (hh : hasDictIn K C = true) (ha : findIn K (.ref C) name = some none)
    (hl : getL name es = some (some v)) (hv : handedIn v = true) (h : Q v { s with toks := s.toks + 1 }) : wpAny (model prog w) A (getAttr (.ref x) name expr) Q E s :=
  get_value X I (plainGet_of hg).1 (findObj_own hh ha rfl hl) hv h
theorem get_method {x C f : Addr} {ox : Obj} {es : List DictEntry} {n : Nat} {name : Str} {pl : Sem Bool} {Q : Value × List Value → Shared → Prop}
    (X : K.In s.heap) (I : PySem.W.InstAt s.heap x ox C (some (dictOf es n))) (hg : plainGet K C name = true) (hf : findIn K (.ref C) name = some (some (.ref f))) (ht : isFn K (.ref f) = true)
    (hl : getL name es = some none) (h : Q (.ref f, [.ref x]) s) : wpAny (model prog w) A (getMethod (.ref x) name pl) Q E s :=
  method_fn X I (plainGet_of hg).1 (plainGet_of hg).2 hf (beq_iff_eq.mp ht) (by show (lookIn name (dictOf es n)).map _ = _; rw [lookIn_dict, hl]; rfl) h
def noObjs (h : Heap) : Heap := { h with objs := #[] }
theorem noObjs_get (h : Heap) (b : Addr) : (noObjs h).get? b = none := by
  cases e : (noObjs h).get? b with
  | none => rfl
  | some o => exact absurd (Heap.lt_size e) (Nat.not_lt_zero _)
def ledger (h : Heap) (L d : Addr) : List (Addr × Obj) := (List.range h.objs.size).filterMap fun a => if a = L ∨ a = d then none else (h.get? a).map fun o => (a, o)
theorem mem_ledger {h : Heap} {L d a : Addr} {o : Obj} : (a, o) ∈ ledger h L d ↔ a ≠ L ∧ a ≠ d ∧ h.get? a = some o := by
  unfold ledger
  rw [List.mem_filterMap]
  constructor
  · rintro ⟨b, _, e⟩
    split at e
    · cases e
    · rename_i hb
      obtain ⟨o', ho, e'⟩ := Option.map_eq_some_iff.mp e
      cases e'
      exact ⟨fun q => hb (.inl q), fun q => hb (.inr q), ho⟩
  · rintro ⟨n1, n2, ho⟩
    refine ⟨a, List.mem_range.mpr (Heap.lt_size ho), ?_⟩
    rw [if_neg (show ¬ (a = L ∨ a = d) from fun q => q.elim n1 n2), ho] <;> rfl
theorem news_ledger {h : Heap} {L d : Addr} {od : Obj} (hne : d ≠ L) (ho : h.get? d = some od) : News (noObjs h) L h ([] ++ (d, od) :: ledger h L d) := by
  rintro ⟨a, o⟩ hp
  rcases List.mem_cons.mp hp with e | hp
  · cases e
    exact ⟨ho, hne, noObjs_get _ _⟩
  · obtain ⟨n1, n2, e⟩ := mem_ledger.mp hp
    exact ⟨e, n1, noObjs_get _ _⟩
theorem fr_all {h : Heap} {L : Addr} {m : Str → Option Value} (n : h.Ns L m) : Fr (noObjs h) L h m :=
  ⟨n, fun b o e => (by rw [noObjs_get] at e; cases e), Nat.zero_le _⟩
theorem upd_ledger {h : Heap} {L d : Addr} {o o' : Obj} : Upd d o o' ((d, o) :: ledger h L d) ((d, o') :: ledger h L d) :=
  .head fun ⟨_, _⟩ hp => (mem_ledger.mp hp).2.1
theorem set_field {x C dx L : Addr} {ox : Obj} {m : Str → Option Value} {es es' : List DictEntry} {n n' : Nat} {name : Str} {v : Value} {Q : Unit → Shared → Prop}
    (X : K.In s.heap) (I : PySem.W.InstAt s.heap x ox C (some (dictOf es n))) (hd : ox.dict = some dx) (hL : s.heap.Ns L m) (hne : dx ≠ L)
    (hs : findIn K (.ref C) "__setattr__" = some (some (.builtin "object.__setattr__"))) (hp : plainOver K C = true) (ht : takerIn K C name = some none) (hh : hasDictIn K C = true) (hl : (getL name es).isSome = true)
    (e : (putL name (PyData.keyHash w.params name) (.str name (s.toks + 1)) v es, putN name es n) = (es', n')) (hz : es'.length ≤ 1000)
    (h : ∀ h' : Heap, h'.Ns L m → h'.get? dx = some (dictOf es' n') → (∀ b o, b ≠ dx → b ≠ L → s.heap.get? b = some o → h'.get? b = some o) → Q () { s with heap := h', toks := s.toks + 2 }) :
    wpAny (model prog w) A (setAttr (.ref x) name v) Q E s := by
  obtain ⟨e1, e2⟩ := Prod.mk.inj e
  have hdx : s.heap.get? dx = some (dictOf es n) := by
    have := I.dict
    rw [hd] at this
    exact this
  refine set_plain X I hs (osa_dict (s := { s with toks := s.toks + 1 }) (h₀ := noObjs s.heap) (L := L) (m := m) (od := dictOf es n) (od' := dictOf es' n') (es := es') (n := n') (pre := []) (post := ledger s.heap L dx)
    (fr_all hL) (news_ledger hne hdx) X I hd hp ht hh hl (fun _ q => nomatch q) (fun ⟨_, _⟩ q => (mem_ledger.mp q).2.1) (by rw [putName_dict, e1, e2]) rfl hz fun h' F' N' => ?_)
  exact h h' F'.ns (N'.get (List.Mem.head _)) fun b o n1 n2 ho => N'.get (List.Mem.tail _ (mem_ledger.mpr ⟨n2, n1, ho⟩))
end
end Att
namespace L2
open PySem PySem.Spec PyProof.Rows
theorem vals_ints : ∀ {vs : List Value} {ns : List Int}, IntsAre vs ns → Vals (ns.map V.int) vs
  | _, _, .nil => .nil
  | _, _, .cons n t h => .cons ⟨t, rfl⟩ (vals_ints h)
def Only (H : Hp) : Prop := ∀ b, H b = none ∨ ∃ o xs, H b = some (.frz o (.lst xs))
theorem law_call {P : Program} {w : World} {K : PySem.W.Frag} {mg mb : Str → Option Value} {CX : CXT} {k : Nat} {fa a : Addr} {fd : FuncData} {x : Str} {sp : Sp} {s₁ : Shared} {vs : List Value} {ns : List Int}
    (KX : K.In s₁.heap) (hns : s₁.heap.Ns mainGlobals mg) (hb : s₁.heap.Ns builtinsNs mb) (hbb : ∀ x : Str, x ≠ "__name__" → mb x = bootBuiltins x) (hlim : s₁.heap.NoLimit) (hg : s₁.gens = #[])
    (ha : s₁.heap.get? a = some { cls := .type "list", data := .seq vs.toArray }) (hi : IntsAre vs ns) (hl : ns.length ≤ sizeLine) (hr : Room k callerA)
    (F : ∀ base : Heap, K.In base → base.Ns mainGlobals mg → FnOk P w K mg base CX k fa fd [x] sp) (hbind : ∀ (s : Shared) (u : Value), BindsTo s fd ⟨[u], []⟩ [(x, u)])
    (hsp : ∀ H : Hp, Only H → SqL K H a (ns.map V.int) → sp [.ref a] H (fun v _ => v = .bl true) fun _ _ _ => False)
    (hCX : ∀ H e s', CX [] H s₁ (fun _ _ _ => False) e s' → False) :
    codeAny (model P w) callerA (.call (.ref fa) ⟨[.ref a], []⟩) (fun r s' => r = .ok (.ret (.bool true)) ∧ OldK s₁.heap s'.heap ∧ s'.os = s₁.os ∧ AllBare s'.gens) s₁ := by
  have rv := vals_ints hi
  have lenV := hi.length
  have core : ∀ H : Hp, Only H → SqL K H a (ns.map V.int) → HOk P w H s₁.heap → (∀ b, H b ≠ none → b = a) → (H a ≠ none → K.lookup a = none) →
      codeAny (model P w) callerA (.call (.ref fa) ⟨[.ref a], []⟩) (fun r s' => r = .ok (.ret (.bool true)) ∧ OldK s₁.heap s'.heap ∧ s'.os = s₁.os ∧ AllBare s'.gens) s₁ := by
    intro H hO hS hok hA hK
    have base_of : ∀ {b : Addr} {o : Obj}, s₁.heap.get? b = some o → H b = none → (hidT s₁.heap H).get? b = some o := fun e n => hidT_get e n
    have noA : ∀ {b : Addr} {o : Obj} {es : Array DictEntry} {ep : Nat}, s₁.heap.get? b = some o → o.data = .dict es ep → H b = none := fun {b o es ep} e d => by
      cases q : H b with
      | none => rfl
      | some u =>
        have e' : b = a := hA b (by rw [q]; simp)
        subst e'
        rw [ha] at e; cases e
        have d' : Data.seq vs.toArray _ = Data.dict es ep := d
        cases d'
    have nsK : ∀ {b : Addr} {m : Str → Option Value}, s₁.heap.Ns b m → (hidT s₁.heap H).Ns b m := fun {b m} ⟨o, es, ep, e, d, r⟩ => ⟨o, es, ep, base_of e (noA e d), d, r⟩
    have hKb : K.In (hidT s₁.heap H) := fun b o e => base_of (KX b o e) (by
      cases q : H b with
      | none => rfl
      | some u =>
        have e' : b = a := hA b (by rw [q]; simp)
        subst e'
        rw [hK (by rw [q]; simp)] at e; cases e)
    have hM : Mod K mg (hidT s₁.heap H) := ⟨hKb, nsK hns, ⟨mb, nsK hb, hbb⟩, let ⟨mc, h1, h2⟩ := hlim; ⟨mc, nsK h1, h2⟩⟩
    have e0 : Env0 P w K mg (hidT s₁.heap H) callerA [] s₁ H := ⟨rfl, hM, fun b o e => of_hidT e, Nat.le_of_eq (hidT_size _ _), trivial, fun b hb => absurd (show b ∈ ([] : List Addr) from hb) (by simp), hok, .of_eq hg⟩
    refine codeAny_mono ((F _ hKb (nsK hns)).run callerA [] s₁ H ⟨[.ref a], []⟩ [.ref a] [.ref a] _ _ hr e0 (hbind s₁ (.ref a)) (.cons rfl .nil) (hsp H hO hS)) fun r s' h => ?_
    cases r with
    | error e => exact (hCX H e s' h).elim
    | ok fl =>
      cases fl with
      | next => exact False.elim h
      | brk => exact False.elim h
      | cont => exact False.elim h
      | ret u =>
        obtain ⟨v, H', os, bare, un, hok', r', q⟩ := h
        have q' : v = .bl true := q
        subst q'
        obtain rfl : u = Value.bool true := r'
        refine ⟨rfl, OldK.of_keep fun b o e => ?_, os, bare⟩
        cases q : H b with
        | none => exact un.keep b o e q (by intro z; exact absurd (show b ∈ ([] : List Addr) from z) (by simp)) (by simp)
        | some u =>
          rcases hO b with z | ⟨ob, xs, z⟩
          · rw [q] at z; cases z
          · have z2 := un.frzs b ob _ z
            obtain ⟨e1, _⟩ := hok b _ z
            obtain ⟨e2, _⟩ := hok' b _ z2
            rw [e] at e1; cases e1
            exact e2
  cases hk : K.lookup a with
  | some o =>
    have e := KX a o hk
    rw [ha] at e
    cases e
    refine core (fun _ => none) (fun _ => .inl rfl) (.inr ⟨_, vs.toArray, _, hk, rfl, rfl, rfl, by rw [List.size_toArray, lenV]; exact hl, by simpa using rv⟩) (fun b u z => by have z' : (none : Option HO) = some u := z; cases z') (fun b z => absurd rfl z) fun z => absurd rfl z
  | none =>
    refine core (fun b => if b = a then some (.frz { cls := .type "list", data := .seq vs.toArray } (.lst (ns.map V.int))) else none) (fun b => ?_) (.inl (.inr ⟨{ cls := .type "list", data := .seq vs.toArray }, if_pos rfl⟩)) (fun b u z => ?_) (fun b z => ?_) fun _ => hk
    · by_cases hb : b = a
      · exact .inr ⟨_, _, if_pos hb⟩
      · exact .inl (if_neg hb)
    · by_cases hb : b = a
      · have z' := (if_pos hb).symm.trans z
        cases z'
        subst hb
        exact ⟨ha, by rw [List.length_map]; exact hl, vs, _, rv, ha⟩
      · have z' := (if_neg hb).symm.trans z
        cases z'
    · by_cases hb : b = a
      · exact hb
      · exact absurd (if_neg hb) z
end L2
namespace L2
open PySem PySem.Spec PyProof.Rows
abbrev KOf {K : PySem.W.Frag} {h : Heap} (_ : K.In h) : PySem.W.Frag := K
theorem walk_of {l : PySem.W.OpenLaw} {n k : Nat} {q : Program} {loose : List Str} {XP : (Str → Option Value) → Heap → Prop} {YP : World → Heap → Prop} {d : DefRec} {K : Params → PySem.W.Frag} {CX : World → CXT} {sp : World → Sp} {x : Str}
    (hn : l.most = some n) (hn2 : n ≤ sizeLine) (hdf : d.params.defaults = []) (hr : Room k callerA)
    (hY : ∀ (w : World) (h : Heap), YP w h → (K w.params).In h)
    (F : ∀ (w : World) (mg : Str → Option Value) (fa : Addr) (h : Heap), (K w.params).In h → h.Ns mainGlobals mg → mg d.name = some (.ref fa) →
      ∃ fd : FuncData, (∀ (s : Shared) (u : Value), BindsTo s fd ⟨[u], []⟩ [(x, u)]) ∧
        ∀ base : Heap, (K w.params).In base → base.Ns mainGlobals mg → FnOk l.prog w (K w.params) mg base (CX w) k fa fd [x] (sp w))
    (hsp : ∀ (w : World) (H : Hp) (a : Addr) (ns : List Int), ns.length ≤ n → Only H → SqL (K w.params) H a (ns.map V.int) → sp w [.ref a] H (fun v _ => v = .bl true) fun _ _ _ => False)
    (hCX : ∀ (w : World) (H : Hp) (s : Shared) (e : Value) (s' : Shared), CX w [] H s (fun _ _ _ => False) e s' → False) :
    PySem.W.WalkO q loose XP YP l.row.toRowW d [] (fun f vs => PySem.call f vs) := by
  refine Att.attach_call hn hdf fun w s₀ s₁ mg mb fa o pm cd doc a vs ns G Y ho hd hcd hmg hobj hints hlen hg => ?_
  have KX := hY w _ Y
  obtain ⟨fd, hb, hF⟩ := F w mg fa _ KX G.T.g hmg
  exact law_call KX G.T.g G.T.b G.T.builtins G.T.nolimit hg hobj hints (Nat.le_trans hlen hn2) hr hF hb (fun H hO hS => hsp w H a ns hlen hO hS) fun H e s' => hCX w H s₁ e s'
theorem walk_ofK {l : PySem.W.OpenLaw} {n k : Nat} {q : Program} {loose : List Str} {XP : (Str → Option Value) → Heap → Prop} {YP : World → Heap → Prop} {d : DefRec} {K : Params → PySem.W.Frag} {CX : CXT} {sp : PySem.W.Frag → Sp} {x : Str}
    (hn : l.most = some n) (hn2 : n ≤ sizeLine) (hdf : d.params.defaults = []) (hr : Room k callerA)
    (hY : ∀ (w : World) (h : Heap), YP w h → (K w.params).In h)
    (F : ∀ (w : World) (mg : Str → Option Value) (fa : Addr) (h : Heap), (K w.params).In h → h.Ns mainGlobals mg → mg d.name = some (.ref fa) →
      ∃ fd : FuncData, (∀ (s : Shared) (u : Value), BindsTo s fd ⟨[u], []⟩ [(x, u)]) ∧
        ∀ base : Heap, (K w.params).In base → base.Ns mainGlobals mg → FnOk l.prog w (K w.params) mg base CX k fa fd [x] (sp (K w.params)))
    (hsp : ∀ (K : PySem.W.Frag) (H : Hp) (a : Addr) (ns : List Int), ns.length ≤ n → Only H → SqL K H a (ns.map V.int) → sp K [.ref a] H (fun v _ => v = .bl true) fun _ _ _ => False)
    (hCX : ∀ (H : Hp) (s : Shared) (e : Value) (s' : Shared), CX [] H s (fun _ _ _ => False) e s' → False) :
    PySem.W.WalkO q loose XP YP l.row.toRowW d [] (fun f vs => PySem.call f vs) :=
  walk_of (K := K) (CX := fun _ => CX) (sp := fun w => sp (K w.params)) hn hn2 hdf hr hY F (fun w H a ns h1 h2 h3 => hsp (K w.params) H a ns h1 h2 h3) fun _ H s e s' => hCX H s e s'
end L2
/- THE LAST THEOREM (shape; LID, My.* are yours):
   My.Adr: a structure of the addresses that your layer names (classes, functions); My.Txt K t: a structure (Prop) of the equations over K;
   My.txt_mk : {K} {implicit addresses ..} (e1 : nsIn K mainGlobals "law" = some (some (.ref f))) (e2 : K.lookup f = some ⟨oc, od, .func (fnOf "law" "law" params body scope dV kV doc pm an cdv ct), sl⟩) (e3 : codeIn K cdv "law" = true) .. : ∃ t, My.Txt K t
set_option maxRecDepth 100000 in
set_option maxHeartbeats 0 in
theorem PySem.Challenge.cw_LID_holds : PySem.Challenge.rw_LID.Holds := by
  w_on; o_law; k_head; (case hw => w_witness2)
  k_fill
  refine L2.walk_of (l := PySem.Challenge.rw_LID) (n := 63) (k := 40) (x := "script") (CX := fun w => ..) (sp := fun _ => My.sp_law) rfl (by decide) rfl ⟨rfl, by decide, by decide⟩ (fun w h Y => PySem.W.kIn_of Y) ?F ?S ?C
  case F =>
    intro w mg fa h KX G hmg
    have T : ∃ t, My.Txt (L2.KOf KX) t := by
      dsimp only [L2.KOf]                          -- K must stand as «<heap const> w.params» for k_is
      refine' My.txt_mk ?e1 ?e2 ?e3 ..
      (case e1 => PySem.W.k_is)                    -- in the order: a name -> its address -> its object -> its parts
      (case e2 => PySem.W.k_is)
      ..
    obtain ⟨t, T⟩ := T
    have e0 := hmg.symm.trans (PySem.W.mg_of KX G T.law)
    cases e0                                       -- fa is the law's own address
    exact ⟨_, fun s u => .of_eq rfl, fun base kb nb => My.law_fn T kb nb⟩     -- if «.of_eq rfl» comes too early: refine' ⟨_, ?b, fun base kb nb => My.law_fn T kb nb⟩; exact fun s u => .of_eq rfl
  case S => exact fun w H a ns hl hO hS => ..
  case C => exact ..
(the tactic k_is has no namespace: write k_is) -/
namespace L2
open PySem PySem.Spec PyProof.Rows
def inClass (s : Stmt) (j : Nat) : Stmt := match s with
  | .ClassDef _ _ _ body _ _ _ _ _ _ _ => body.getD j (.Pass ⟨0, 0, 0, 0⟩)
  | _ => .Pass ⟨0, 0, 0, 0⟩
def defArgs (s : Stmt) : Arguments := match s with
  | .FunctionDef _ a _ _ _ _ _ _ _ _ => a
  | _ => { posonlyargs := [], args := [], vararg := none, kwonlyargs := [], kw_defaults := [], kwarg := none, defaults := [] }
def defBody (s : Stmt) : List Stmt := match s with
  | .FunctionDef _ _ b _ _ _ _ _ _ _ => b
  | _ => []
def defScope (s : Stmt) : Scope := match s with
  | .FunctionDef _ _ _ _ _ _ sc _ _ _ => sc
  | _ => { kind := .function, names := [], isGenerator := false, isCoroutine := false }
abbrev CX0 : CXT := fun _ _ _ _ _ _ => False
abbrev E0 : XK := fun _ _ _ => False
theorem pass0 {X : Cx} : Passes CX0 X E0 := fun _ _ _ _ _ _ _ h => h.elim
structure Fun (K : PySem.W.Frag) (x qual : Str) (st : Stmt) (f : Addr) (fd : FuncData) : Prop where
  ex : ∃ (oc : Value) (od : Option Addr) (kV doc pm : Value) (an : Option Addr) (cdv ct : Value) (osl : Array (Option Value)),
    fd = PySem.W.fnOf x qual (defArgs st) (defBody st) (defScope st) .none kV doc pm an cdv ct ∧ K.lookup f = some ⟨oc, od, .func fd, osl⟩ ∧ PySem.W.codeIn K cdv qual = true
  kp : PySem.W.keepIn K (.ref f) = true
section
variable {P : Program} {w : World} {K : PySem.W.Frag} {mg : Str → Option Value} {base : Heap}
theorem Fun.ok {x qual : Str} {st : Stmt} {f : Addr} {fd : FuncData} {N ps : List Str} {k : Nat} {sp : Sp} (F : Fun K x qual st f fd) (S : FnScope N ps (defScope st)) (len : ∀ vs H Q E, sp vs H Q E → vs.length = ps.length)
    (hbody : ∀ (cdv : Value) (A : Around) (outer : List Env) (s : Shared) (H : Hp) (vs : List V) (Q : VK) (E : XK), Room k (A.deeper (envOfC qual (defScope st) s.heap.objs.size f cdv)) → sp vs H Q E →
      ∃ t, PSs (cxOf CX0 P w K mg base N qual (defScope st) f cdv A outer s H E).nox (defBody st) t ∧ t { nx := fun _ H' => Q .non H', rt := Q } (start N vs) H) : FnOk P w K mg base CX0 (k + 1) f fd ps sp := by
  obtain ⟨oc, od, kV, doc, pm, an, cdv, ct, osl, rfl, lk, hcd⟩ := F.ex
  refine fn_of lk hcd S len fun A outer s H vs Q E hr hsp => ?_
  obtain ⟨t, h, q⟩ := hbody cdv A outer s H vs Q E hr hsp
  exact ⟨t, h.nox, q⟩
theorem Fun.binds {x qual : Str} {st : Stmt} {f : Addr} {fd : FuncData} {ps : List Str} (F : Fun K x qual st f fd)
    (h : ∀ (kV doc pm : Value) (an : Option Addr) (cdv ct : Value) (us : List Value), us.length = ps.length → bindArgs (PySem.W.fnOf x qual (defArgs st) (defBody st) (defScope st) .none kV doc pm an cdv ct) ⟨us, []⟩ = pure (ps.zip us)) : Binds K fd ps [] := by
  obtain ⟨oc, od, kV, doc, pm, an, cdv, ct, osl, rfl, lk, hcd⟩ := F.ex
  exact .all (h kV doc pm an cdv ct)
theorem fun_mk {x qual : Str} {st : Stmt} {f : Addr} {oc : Value} {od an : Option Addr} {osl : Array (Option Value)} {kV doc pm cdv ct : Value} (l : K.lookup f = some ⟨oc, od, .func (PySem.W.fnOf x qual (defArgs st) (defBody st) (defScope st) .none kV doc pm an cdv ct), osl⟩)
    (c : PySem.W.codeIn K cdv qual = true) (k : PySem.W.keepIn K (.ref f) = true) : Fun K x qual st f (PySem.W.fnOf x qual (defArgs st) (defBody st) (defScope st) .none kV doc pm an cdv ct) := ⟨⟨oc, od, kV, doc, pm, an, cdv, ct, osl, rfl, l, c⟩, k⟩
end
theorem hu_of {A : Around} {k : Nat} (hr : Room k A) : A.units + 1 < cLine := Nat.lt_of_le_of_lt (Nat.add_le_add_left (by decide : 1 ≤ 64) _) hr.units
theorem small1000 {n : Nat} (h : n ≤ 1000) : n < sizeLine := Nat.lt_of_le_of_lt h (by decide)
section
variable {X : Cx}
theorem pv (i : Nat) {x : Str} {pos : Pos} (hN : X.N[i]? = some x := by rfl) (hv : Vis X.env.scope x := by first | exact Or.inl rfl | exact Or.inr (Or.inl rfl) | exact Or.inr (Or.inr rfl)) (hd : (x == ("__debug__" : Str)) = false := by decide)
    (hcd : (x == ("__classdict__" : Str)) = false := by decide) : PE X (.Name x pos) (tVar i) := pe_var hN hv hd hcd
end
theorem iteF {A B : Prop} (h : B) : if false = true then A else B := by
  rw [if_neg Bool.false_ne_true]
  exact h
theorem iteT {A B : Prop} (h : A) : if true = true then A else B := by
  rw [if_pos rfl]
  exact h
theorem ite2 {c A B : Prop} [Decidable c] (h1 : c → A) (h2 : ¬ c → B) : if c then A else B := by
  by_cases h : c
  · rw [if_pos h]
    exact h1 h
  · rw [if_neg h]
    exact h2 h
theorem iteNS {c A B : Prop} [Decidable c] (hc : c) (h : B) : if (!decide c) = true then A else B := by
  rw [decide_eq_true hc]
  exact iteF h
def Same (H H' : Hp) : Prop := ∀ b o, H b = some o → H' b = some o
theorem Same.refl (H : Hp) : Same H H := fun _ _ h => h
theorem Same.trans {H H1 H2 : Hp} (a : Same H H1) (b : Same H1 H2) : Same H H2 := fun c o h => b c o (a c o h)
theorem Same.free {H H' : Hp} (e : Same H H') {l : Addr} (h : H' l = Option.none) : H l = Option.none := by
  cases q : H l with
  | none => rfl
  | some o =>
    rw [e l o q] at h
    cases h
theorem Same.seq {K : PySem.W.Frag} {H H' : Hp} {a : Addr} {xs : List V} (e : Same H H') (h : SqL K H a xs) : SqL K H' a xs := by
  rcases h with (h | ⟨o, h⟩) | h
  · exact .inl (.inl (e _ _ h))
  · exact .inl (.inr ⟨o, e _ _ h⟩)
  · exact .inr h
section
variable {X : Cx}
theorem call_lenD : CallR X (.builtin "len") (fun xs H Q => ∃ a kvs, xs = [V.ref a] ∧ H a = some (.dK kvs) ∧ Q (.int kvs.length) H) := by
  intro pins s σ H xs us Q I r h
  obtain ⟨a, kvs, rfl, ha, q⟩ := h
  obtain ⟨u, rfl, ru⟩ := vals1 r
  cases ru
  exact d_len I (.inl ha) fun t s' I' => ⟨.int kvs.length, H, I', ⟨t, rfl⟩, q⟩
end
section
variable {κ : Type} [DecidableEq κ]
theorem valV_not {kvs : List (κ × V)} {k : κ} (h : valV kvs k = none) : ¬ k ∈ kvs.map (·.1) := by
  intro m
  obtain ⟨p, hp, e⟩ := List.mem_map.mp m
  have q : (kvs.any fun kv => decide (kv.1 = k)) = true := List.any_eq_true.mpr ⟨p, hp, decide_eq_true e⟩
  rw [valV_any, h] at q
  exact absurd q (by simp)
theorem valV_in {kvs : List (κ × V)} {k : κ} {v : V} (h : valV kvs k = some v) : k ∈ kvs.map (·.1) := by
  have q : (kvs.any fun kv => decide (kv.1 = k)) = true := by
    rw [valV_any, h]
    all_goals rfl
  obtain ⟨p, hp, e⟩ := List.any_eq_true.mp q
  exact List.mem_map.mpr ⟨p, hp, of_decide_eq_true e⟩
theorem nd_snoc : ∀ {l : List κ} {k : κ}, l.Nodup → ¬ k ∈ l → (l ++ [k]).Nodup
  | [], k, _, _ => by simp
  | a :: r, k, h, hk => by
    obtain ⟨h1, h2⟩ := List.nodup_cons.mp h
    show (a :: (r ++ [k])).Nodup
    refine List.nodup_cons.mpr ⟨fun m => ?_, nd_snoc h2 fun m => hk (List.mem_cons.mpr (Or.inr m))⟩
    rcases List.mem_append.mp m with q | q
    · exact h1 q
    · exact hk (List.mem_cons.mpr (Or.inl (List.mem_singleton.mp q).symm))
theorem nd_putK {kvs : List (κ × V)} {k : κ} (v : V) (hn : (kvs.map (·.1)).Nodup) (h : valV kvs k = none) : ((putK kvs k v).map (·.1)).Nodup := by
  rw [putK_new v h, List.map_append]
  exact nd_snoc hn (valV_not h)
theorem dropK_pos {p : κ × V} {r : List (κ × V)} {k : κ} (e : p.1 = k) : dropK (p :: r) k = dropK r k := by
  unfold dropK
  rw [List.filter_cons, if_neg (by simp [e])]
theorem dropK_neg {p : κ × V} {r : List (κ × V)} {k : κ} (e : ¬ p.1 = k) : dropK (p :: r) k = p :: dropK r k := by
  unfold dropK
  rw [List.filter_cons, if_pos (by simp [e])]
theorem dropK_no : ∀ {kvs : List (κ × V)} {k : κ}, ¬ k ∈ kvs.map (·.1) → dropK kvs k = kvs
  | [], _, _ => rfl
  | p :: r, k, h => by
    have h' : ¬ k ∈ r.map (·.1) := fun m => by
      obtain ⟨q, hq, e⟩ := List.mem_map.mp m
      exact h (List.mem_map.mpr ⟨q, List.mem_cons.mpr (Or.inr hq), e⟩)
    rw [dropK_neg fun e => h (List.mem_map.mpr ⟨p, List.mem_cons.mpr (Or.inl rfl), e⟩), dropK_no h']
theorem dropK_mem {kvs : List (κ × V)} {k : κ} {p : κ × V} (h : p ∈ dropK kvs k) : p ∈ kvs := (List.mem_filter.mp h).1
theorem nd_dropK : ∀ {kvs : List (κ × V)} {k : κ}, (kvs.map (·.1)).Nodup → ((dropK kvs k).map (·.1)).Nodup
  | [], _, _ => List.nodup_nil
  | p :: r, k, h => by
    have h : (p.1 :: r.map (·.1)).Nodup := h
    obtain ⟨h1, h2⟩ := List.nodup_cons.mp h
    by_cases e : p.1 = k
    · rw [dropK_pos e]
      exact nd_dropK h2
    · rw [dropK_neg e]
      show (p.1 :: (dropK r k).map (·.1)).Nodup
      refine List.nodup_cons.mpr ⟨fun m => h1 ?_, nd_dropK h2⟩
      obtain ⟨q, hq, eq⟩ := List.mem_map.mp m
      exact List.mem_map.mpr ⟨q, dropK_mem hq, eq⟩
theorem dropK_len : ∀ {kvs : List (κ × V)} {k : κ}, (kvs.map (·.1)).Nodup → k ∈ kvs.map (·.1) → (dropK kvs k).length + 1 = kvs.length
  | [], _, _, m => by simp at m
  | p :: r, k, h, m => by
    have h : (p.1 :: r.map (·.1)).Nodup := h
    have m : k = p.1 ∨ k ∈ r.map (·.1) := List.mem_cons.mp m
    obtain ⟨h1, h2⟩ := List.nodup_cons.mp h
    by_cases e : p.1 = k
    · subst e
      rw [dropK_pos rfl, dropK_no h1]
      all_goals rfl
    · have m' : k ∈ r.map (·.1) := m.resolve_left fun z => e z.symm
      have q := dropK_len h2 m'
      rw [dropK_neg e, List.length_cons, List.length_cons]
      omega
end
end L2
namespace L2
open PySem PySem.Spec PyProof.Rows
section
variable {prog : Program} {w : World} {A : Around} {R : Result → Shared → Prop} {s : Shared}
theorem comp_loop {elt tg iter : Expr} {ifs : List Expr} {scope : Scope} {pos : Pos} {it acc : Value} {env : Env} (Iv : Nat → Shared → Prop)
    (turn : ∀ n s, Iv n s → wpAny (model prog w) A (pyNext it) (fun r s1 => match r with
      | none => R (.ok .next) s1
      | some v => wpAny (model prog w) A (letOwnedTupleGo tg it v) (fun _ s1' => wpAny (model prog w) A (assign tg env v) (fun _ s2 =>
          wpAny (model prog w) A (forIn ifs true fun c r => if r = true then do let ok ← isTrue c env (eval c env); pure (ForInStep.yield ok) else pure (ForInStep.yield r)) (fun ok s3 =>
            if ok = true then wpAny (model prog w) A (eval elt env) (fun x s4 =>
              wpAny (model prog w) A (call (.builtin "list.append") [acc, x]) (fun _ s5 => ∃ m, m < n ∧ Iv m s5) (fun _ _ => False) s4) (fun _ _ => False) s3
            else ∃ m, m < n ∧ Iv m s3) (fun _ _ => False) s2) (fun _ _ => False) s1') (fun _ _ => False) s1) (fun _ _ => False) s)
    (n : Nat) (hn : Iv n s) : codeAny (model prog w) A (.compLoop (.ListComp elt [⟨tg, iter, ifs, 0⟩] scope pos) 0 it acc env) R s := by
  have ff : ∀ {E : Value → Shared → Prop} (x : Value) (s : Shared), False → E x s := fun _ _ f => f.elim
  refine codeAny_loop rfl Iv (fun k s0 hI => ?_) n hn
  show wpAny (model prog w) A ((compTurn (.ListComp elt [⟨tg, iter, ifs, 0⟩] scope pos) 0 it acc env).onRaise (fun x => do noteFrame x env; theTreesLotGoes x)) _ _ s0
  refine wpAny_noted ?_
  rw [compTurn_list]
  refine wpAny_bind (wpAny_standAt (wpAny_bind (wpAny_mono (turn k s0 hI) (fun r s1 h1 => ?_) ff)))
  cases r with
  | none => exact wpAny_pure h1
  | some v =>
    refine wpAny_bind (wpAny_mono h1 (fun _ s1' h1' => wpAny_bind (wpAny_mono h1' (fun _ s2 h2 => wpAny_bind (wpAny_mono h2 (fun ok s3 h3 => ?_) ff)) ff)) ff)
    cases ok with
    | false => exact wpAny_pure ⟨rfl, h3⟩
    | true => exact wpAny_bind (wpAny_bind (wpAny_mono h3 (fun x s4 h4 => wpAny_bind (wpAny_mono h4 (fun _ s5 h5 => wpAny_pure (wpAny_pure ⟨rfl, h5⟩)) ff)) ff))
end
def frees (sc : Scope) : List Str := (sc.names.filter fun x => x.2 == .free).map (·.1)
def cellPairs (env : Env) : List (Str × NameKind) → List (Str × Addr) → List (Str × Addr)
  | [], cs => cs
  | (n, k) :: r, cs => cellPairs env r (if k == .free then (n, (env.cells.lookup n).getD 0) :: cs else cs)
theorem clos_of {env : Env} {sc : Scope} (h : ∀ x ∈ frees sc, ∃ c, env.cells.lookup x = some c) : closureFor sc env = pure (cellPairs env sc.names []) := by
  have key : ∀ (l : List (Str × NameKind)) (cs : List (Str × Addr)), (∀ x ∈ (l.filter fun x => x.2 == .free).map (·.1), ∃ c, env.cells.lookup x = some c) →
      (forIn l cs fun x r => (do
        let (name, kind) := x
        if kind == .free then do
          let a ← cellOf env name
          pure (ForInStep.yield ((name, a) :: r))
        else pure (ForInStep.yield r) : Sem (ForInStep (List (Str × Addr))))) = pure (cellPairs env l cs) := by
    intro l
    induction l with
    | nil => intro cs _; rfl
    | cons p r ih =>
      obtain ⟨n, k⟩ := p
      intro cs h
      rw [List.forIn_cons]
      by_cases hk : (k == NameKind.free) = true
      · obtain ⟨c, hc⟩ := h n (by simp [hk])
        have ih' := ih ((n, c) :: cs) fun x hx => h x (by simp only [List.filter_cons, hk, if_true, List.map_cons, List.mem_cons]; exact Or.inr hx)
        have e : cellOf env n = pure c := by unfold cellOf; rw [hc]
        simp only [hk, if_true, e, pure_bind, cellPairs, hc, Option.getD_some]
        exact ih'
      · have ih' := ih cs fun x hx => h x (by simp only [List.filter_cons, hk]; exact hx)
        simp only [hk, cellPairs, Bool.false_eq_true, if_false, pure_bind]
        exact ih'
  unfold closureFor
  have k := key sc.names [] h
  simp only [bind_pure] at k ⊢
  first
    | exact k
    | (simp only [pure_bind]; exact k)
theorem cellPairs_get {env : Env} : ∀ {l : List (Str × NameKind)} {cs : List (Str × Addr)} {x : Str} {c : Addr}, (cellPairs env l cs).lookup x = some c →
    cs.lookup x = some c ∨ ((x, NameKind.free) ∈ l ∧ c = (env.cells.lookup x).getD 0)
  | [], _, _, _, h => .inl h
  | (n, k) :: r, cs, x, c, h => by
    rcases cellPairs_get (l := r) h with q | ⟨q, e⟩
    · by_cases hk : (k == NameKind.free) = true
      · rw [if_pos hk, List.lookup_cons] at q
        by_cases hx : (x == n) = true
        · rw [hx] at q
          have e := eq_of_beq hx
          subst e
          have hk' : k = .free := by cases k <;> first | rfl | exact absurd hk (by decide)
          subst hk'
          exact .inr ⟨List.mem_cons_self, (Option.some.inj q).symm⟩
        · rw [Bool.not_eq_true] at hx
          rw [hx] at q
          exact .inl q
      · rw [if_neg hk] at q
        exact .inl q
    · exact .inr ⟨List.mem_cons_of_mem _ q, e⟩
theorem cellPairs_has {env : Env} : ∀ {l : List (Str × NameKind)} {cs : List (Str × Addr)} {x : Str}, (∃ c, cs.lookup x = some c) ∨ (x, NameKind.free) ∈ l → ∃ c, (cellPairs env l cs).lookup x = some c
  | [], _, _, h => h.elim id fun z => nomatch z
  | (n, k) :: r, cs, x, h => by
    refine cellPairs_has (l := r) ?_
    rcases h with ⟨c, h⟩ | h
    · left
      by_cases hk : (k == NameKind.free) = true
      · rw [if_pos hk, List.lookup_cons]
        by_cases hx : (x == n) = true
        · rw [hx]; exact ⟨_, rfl⟩
        · rw [Bool.not_eq_true] at hx; rw [hx]; exact ⟨c, h⟩
      · rw [if_neg hk]; exact ⟨c, h⟩
    · rcases List.mem_cons.mp h with e | h
      · left
        cases e
        rw [if_pos (by decide), List.lookup_cons, beq_self_eq_true]
        exact ⟨_, rfl⟩
      · exact .inr h
def cxComp (X : Cx) (N : List Str) (sc : Scope) (s3 : Shared) (H3 : Hp) (fp : List Addr) : Cx :=
  { X with N := N, s₀ := s3, H₀ := H3, env := compEnvC sc (cellPairs X.env sc.names []) s3.heap.objs.size X.env, outer := X.stack, stack := X.stack, ex := fp, fn := fun _ => false, pn := [], xe := fun _ _ => False }
def iniC (js : List (Option Nat)) (σ : St) : St := js.map fun j => match j with
  | none => none
  | some j => (σ[j]?).join
def capOk (N : List Str) (sc : Scope) : List Str → List (Option Nat) → Bool
  | [], [] => true
  | x :: r, none :: js => capOk N sc r js
  | x :: r, some j :: js => decide (N[j]? = some x) && decide (sc.names.lookup x = some .free) && capOk N sc r js
  | _, _ => false
theorem capOk_len {N : List Str} {sc : Scope} : ∀ {M : List Str} {js : List (Option Nat)}, capOk N sc M js = true → js.length = M.length
  | [], [], _ => rfl
  | _ :: r, none :: js, h => by
    have := capOk_len (M := r) (js := js) h
    simp [this]
  | _ :: r, some j :: js, h => by
    unfold capOk at h
    have := capOk_len (M := r) (js := js) ((Bool.and_eq_true _ _).mp h).2
    simp [this]
  | [], _ :: _, h => by cases h
  | _ :: _, [], h => by cases h
theorem capOk_at {N : List Str} {sc : Scope} : ∀ {M : List Str} {js : List (Option Nat)} {i j : Nat} {x : Str}, capOk N sc M js = true → M[i]? = some x → js[i]? = some (some j) → N[j]? = some x ∧ sc.names.lookup x = some .free
  | [], _, _, _, _, _, h, _ => by simp at h
  | _ :: _, [], _, _, _, h, _, _ => by cases h
  | y :: r, none :: js, 0, j, x, h, h1, h2 => by simp at h2
  | y :: r, some q :: js, 0, j, x, h, h1, h2 => by
    simp at h1 h2
    subst h1 h2
    unfold capOk at h
    obtain ⟨a, b⟩ := (Bool.and_eq_true _ _).mp ((Bool.and_eq_true _ _).mp h).1
    exact ⟨of_decide_eq_true a, of_decide_eq_true b⟩
  | y :: r, none :: js, i + 1, j, x, h, h1, h2 => capOk_at (M := r) (js := js) h (by simpa using h1) (by simpa using h2)
  | y :: r, some q :: js, i + 1, j, x, h, h1, h2 => by
    unfold capOk at h
    exact capOk_at (M := r) (js := js) ((Bool.and_eq_true _ _).mp h).2 (by simpa using h1) (by simpa using h2)
structure CompScope (X : Cx) (M : List Str) (js : List (Option Nat)) (sc : Scope) : Prop where
  kind : sc.kind = .function
  nocell : ∀ y ∈ sc.names, y.2 ≠ .cell
  loc : ∀ y ∈ sc.names, y.2 = .local → sc.names.lookup y.1 = some .local
  cap : capOk X.N sc M js = true
  free : ∀ x ∈ frees sc, X.env.kindOf x = some .cell ∨ X.env.kindOf x = some .free
  nd : M.Nodup
def tComp (wi : TI) (js : List (Option Nat)) (g : TG) (tt : TT) (te : TE) : TE := fun σ H Q => wi σ H fun J H1 => ∀ D, H1 D = none →
  ∃ W : Nat → Nat → St → Hp → Prop, (∃ m, W 0 m (iniC js σ) (upd H1 D (.lst []))) ∧ ∀ i m σ' H', W i m σ' H' →
    (J.stop i H' ∧ Q (.ref D) H') ∨ (J.go i H' ∧ ∀ x H2, J.yld i H' x H2 → g x σ' H2 fun σ3 H3 => tt σ3 H3 fun b H4 =>
      if b = true then te σ3 H4 fun y H5 => ∃ xs, H5 D = some (.lst xs) ∧ xs.length < sizeLine ∧ ∃ m', m' < m ∧ W (i + 1) m' σ3 (upd H5 D (.lst (xs ++ [y])))
      else ∃ m', m' < m ∧ W (i + 1) m' σ3 H4)
def PTs (X : Cx) (ifs : List Expr) (t : TT) : Prop :=
  ∀ (pins : List (Addr × Obj)) (s : Shared) (σ : St) (H : Hp) (Q : Bool → Hp → Prop), Inv X pins σ H s → t σ H Q →
    wpAny (model X.prog X.w) X.A (forIn ifs true fun c r => if r = true then do let ok ← isTrue c X.env (eval c X.env); pure (ForInStep.yield ok) else pure (ForInStep.yield r)) (TP X pins σ Q) X.xe s
def tYes : TT := fun _ H Q => Q true H
theorem pts_nil {X : Cx} : PTs X [] tYes := fun _ _ _ H _ I h => wpAny_tests_nil ⟨H, I, h⟩
theorem pts_one {X : Cx} {c : Expr} {t : TT} (h : PT X c t) : PTs X [c] t := fun pins s σ H Q I q => wpAny_tests_one (h pins s σ H Q I q)
section
variable {X : Cx}
theorem Inv.comp {pins : List (Addr × Obj)} {σ : St} {H3 : Hp} {s3 : Shared} {M : List Str} {js : List (Option Nat)} {sc : Scope} {fp : List Addr} {h' : Heap} {tk : Nat} (S : CompScope X M js sc) (I : Inv X pins σ H3 s3)
    (hf : ∀ b ∈ fp, FpOk X pins H3 b) (hlt : ∀ b ∈ fp, b < s3.heap.objs.size) (hn : h'.Ns s3.heap.objs.size fun _ => none) (hk : ∀ b o, s3.heap.get? b = some o → h'.get? b = some o) :
    Inv (cxComp X M sc s3 H3 fp) [] (iniC js σ) H3 { s3 with heap := h', toks := tk } := by
  have cl : ∀ {x : Str} {c : Addr}, (cellPairs X.env sc.names []).lookup x = some c → X.env.cells.lookup x = some c := fun {x c} e => by
    rcases cellPairs_get e with q | ⟨q, e'⟩
    · cases q
    · obtain ⟨c', hc⟩ := I.ok.has x (S.free x (List.mem_map.mpr ⟨(x, .free), List.mem_filter.mpr ⟨q, rfl⟩, rfl⟩))
      rw [hc] at e' ⊢
      rw [e']; rfl
  have bsz : X.base.objs.size ≤ s3.heap.objs.size := Nat.le_trans I.ok.bsz I.sz
  have lk : ∀ {x : Str}, sc.names.lookup x = some .free → (relabel sc X.env).names.lookup x = some .cell ∨ (relabel sc X.env).names.lookup x = some .free := fun {x} e => by
    have key : ∀ (l : List (Str × NameKind)), l.lookup x = some .free → (l.map fun (n, k) => if (k == NameKind.free && X.env.scope.kind == .function && X.env.kindOf n == some .cell) then (n, NameKind.cell) else (n, k)).lookup x = some .cell ∨
        (l.map fun (n, k) => if (k == NameKind.free && X.env.scope.kind == .function && X.env.kindOf n == some .cell) then (n, NameKind.cell) else (n, k)).lookup x = some .free := by
      intro l
      induction l with
      | nil => intro e; cases e
      | cons p r ih =>
        obtain ⟨n, k⟩ := p
        intro e
        rw [List.lookup_cons] at e
        rw [List.map_cons]
        by_cases hx : (x == n) = true
        · rw [hx] at e
          have e' : k = .free := Option.some.inj e
          subst e'
          dsimp only
          split
          · left; rw [List.lookup_cons, hx]
          · right; rw [List.lookup_cons, hx]
        · rw [Bool.not_eq_true] at hx
          rw [hx] at e
          dsimp only
          split <;> (rw [List.lookup_cons, hx]; exact ih e)
    exact key sc.names e
  have kf : ∀ {x : Str}, ((relabel sc X.env).names.lookup x = some .cell ∨ (relabel sc X.env).names.lookup x = some .free) → (x, NameKind.free) ∈ sc.names := fun {x} e => by
    have key : ∀ (l : List (Str × NameKind)), (∀ y ∈ l, y.2 ≠ .cell) → ((l.map fun (n, k) => if (k == NameKind.free && X.env.scope.kind == .function && X.env.kindOf n == some .cell) then (n, NameKind.cell) else (n, k)).lookup x = some .cell ∨
        (l.map fun (n, k) => if (k == NameKind.free && X.env.scope.kind == .function && X.env.kindOf n == some .cell) then (n, NameKind.cell) else (n, k)).lookup x = some .free) → (x, NameKind.free) ∈ l := by
      intro l
      induction l with
      | nil => intro _ e; rcases e with e | e <;> cases e
      | cons p r ih =>
        obtain ⟨n, k⟩ := p
        intro nc e
        rw [List.map_cons] at e
        by_cases hx : (x == n) = true
        · have e0 := eq_of_beq hx
          subst e0
          have hkf : k = .free := by
            dsimp only at e
            split at e
            · rename_i hc
              have := ((Bool.and_eq_true _ _).mp ((Bool.and_eq_true _ _).mp hc).1).1
              cases k <;> first | rfl | exact absurd this (by decide)
            · rw [List.lookup_cons, beq_self_eq_true] at e
              rcases e with e | e
              · exact absurd (Option.some.inj e) (nc _ List.mem_cons_self)
              · exact Option.some.inj e
          rw [hkf]; exact List.mem_cons_self
        · rw [Bool.not_eq_true] at hx
          refine List.mem_cons_of_mem _ (ih (fun y hy => nc y (List.mem_cons_of_mem _ hy)) ?_)
          dsimp only at e
          split at e <;> (rw [List.lookup_cons, hx] at e; exact e)
    exact key sc.names S.nocell e
  refine ⟨⟨I.ok.mod, S.kind, I.ok.glob, I.ok.blt, Nat.le_refl _, fun x y c h1 h2 => I.ok.inj x y c (cl h1) (cl h2), fun x hx => cellPairs_has (.inr (kf hx)), (fun x c h _ => by cases h), I.ok.hd, I.ok.frames, .inl rfl, fun b hb => ⟨Nat.ne_of_lt (hlt b hb), fun x c e => (hf b hb).2.2.2.2.1 x c (cl e)⟩,
      I.bs, bsz, fun b o e hb => ?_, fun b hb hb' => ?_, I.stack, I.stkFree⟩,
    rfl, I.bare, Un.kept hk, ⟨_, hn, fun i x v h1 h2 h3 => ?_⟩, fun x c e => ?_, I.hok.fresh (Nat.le_refl _), fun x c e => I.freeC x c (cl e), fun p hp => absurd (show p ∈ ([] : List (Addr × Obj)) from hp) (by simp), I.hok.kept hk, ?_⟩
  · rcases (hf b hb).2.2.2.1 with z | z
    · exact I.ok.noex b o e z
    · exact absurd (Nat.lt_of_lt_of_le (Heap.lt_size e) (Nat.le_trans I.ok.bsz z)) (Nat.lt_irrefl _)
  · rcases List.mem_cons.mp (I.stkSub b hb') with z | z
    · exact (hf b hb).2.1 z
    · exact (hf b hb).2.2.1 z
  · have hlen := capOk_len S.cap
    have hi : i < js.length := by rw [hlen]; exact (List.getElem?_eq_some_iff.mp h1).1
    unfold iniC at h2
    rw [List.getElem?_map, List.getElem?_eq_getElem hi, Option.map_some] at h2
    cases hj : js[i] with
    | none => rw [hj] at h2; cases h2
    | some j =>
      rw [hj] at h2
      have h2' : (σ[j]?).join = some v := Option.some.inj h2
      obtain ⟨a, b⟩ := capOk_at S.cap h1 (by rw [List.getElem?_eq_getElem hi, hj])
      have hs : σ[j]? = some (some v) := by
        cases q : σ[j]? with
        | none => rw [q] at h2'; cases h2'
        | some z => rw [q] at h2'; rw [show z = some v from h2']
      have hfr := S.free x (List.mem_map.mpr ⟨(x, .free), List.mem_filter.mpr ⟨PySem.mem_of_lookup b, rfl⟩, rfl⟩)
      obtain ⟨m, hm, hl⟩ := I.loc
      obtain ⟨u, ru, l⟩ := hl j x v a hs (hfr.elim (fun z => .inr (.inl z)) fun z => .inr (.inr z))
      refine ⟨u, ru, .inr ⟨lk b, ?_⟩⟩
      rcases l with ⟨k, _⟩ | ⟨_, c, e, hc⟩
      · rcases hfr with z | z <;> (rw [z] at k; cases k)
      · obtain ⟨c', hc'⟩ := cellPairs_has (env := X.env) (l := sc.names) (cs := []) (x := x) (.inr (PySem.mem_of_lookup b))
        have e' := cl hc'
        rw [e] at e'
        have e2 : c = c' := Option.some.inj e'
        subst e2
        obtain ⟨o, ho, hd⟩ := hc
        exact ⟨c, hc', o, hk _ _ ho, hd⟩
  · obtain ⟨v, o, ho, hd⟩ := I.cell x c (cl e)
    exact ⟨v, o, hk _ _ ho, hd⟩
  · unfold iniC
    rw [List.length_map]
    exact capOk_len S.cap
theorem Inv.uncomp {pins pins' : List (Addr × Obj)} {σ σ' : St} {H3 H' : Hp} {s3 s' : Shared} {M : List Str} {sc : Scope} {fp : List Addr} {h' : Heap} (I : Inv X pins σ H3 s3) (hf : ∀ b ∈ fp, FpOk X pins H3 b)
    (J : Inv (cxComp X M sc s3 H3 fp) pins' σ' H' s') (hs : Heap.SameBut s3.heap.objs.size s'.heap h') : Inv X pins σ H' { s' with heap := h' } := by
  have B : Un (frs X.stack) fp H3 H' s3.heap s'.heap := J.base
  have ne : ∀ {b : Addr} {o : Obj}, s3.heap.get? b = some o → b ≠ s3.heap.objs.size := fun e => Nat.ne_of_lt (Heap.lt_size e)
  have B' : Un (frs X.stack) fp H3 H' s3.heap h' := ⟨fun b o e n hb hx => (hs.2 b (ne e)).trans (B.keep b o e n hb hx), fun b o e n hb hx => let ⟨sl, q⟩ := B.slot b o e n hb hx; ⟨sl, (hs.2 b (ne e)).trans q⟩, B.free,
    fun b o e hx => let ⟨o', q⟩ := B.there b o e hx; ⟨o', (hs.2 b (ne e)).trans q⟩, B.tups, B.frzs, B.tbls⟩
  have fr : H' s3.heap.objs.size = none := J.free
  refine I.call' (s' := { s' with heap := h' }) (ch := fp) J.os B' (fun b u e => ?_) J.bare fun b hb => ⟨(hf b hb).2.2.2.1, (hf b hb).2.1, (hf b hb).2.2.2.2.1, (hf b hb).2.2.2.2.2⟩
  refine (J.hok b u e).stay (fun c v hc q => (hs.2 c ?_).trans q) (fun _ q => q) fun _ _ q => q
  rintro rfl
  rcases hc with rfl | hc
  · rw [fr] at e; cases e
  · rw [fr] at hc; cases hc
theorem comp_block {tg iter elt : Expr} {ifs : List Expr} {sc : Scope} {pos : Pos} {M : List Str} {js : List (Option Nat)} {g : TG} {tt : TT} {te : TE} {pins : List (Addr × Obj)} {σ : St} {H2 : Hp} {s2 : Shared} {it : Addr} {fp : List Addr}
    {tn : Nat → Heap → Prop} {J : It} {Q : VK} {RR : Value → Addr → Result → Shared → Prop} (S : CompScope X M js sc) (hc : X.calm = true) (I2 : Inv X pins σ H2 s2) (T : Turn X.prog X.w X.K tg J fp it tn) (st : tn 0 s2.heap) (hf : ∀ b ∈ fp, FpOk X pins H2 b)
    (hb : ∀ s3 H3 fp, PG (cxComp X M sc s3 H3 fp) tg g ∧ PTs (cxComp X M sc s3 H3 fp) ifs tt ∧ PE (cxComp X M sc s3 H3 fp) elt te)
    (h : ∀ D, H2 D = none → ∃ W : Nat → Nat → St → Hp → Prop, (∃ m, W 0 m (iniC js σ) (upd H2 D (.lst []))) ∧ ∀ i m σ' H', W i m σ' H' →
      (J.stop i H' ∧ Q (.ref D) H') ∨ (J.go i H' ∧ ∀ x H2, J.yld i H' x H2 → g x σ' H2 fun σ3 H3 => tt σ3 H3 fun b H4 =>
        if b = true then te σ3 H4 fun y H5 => ∃ xs, H5 D = some (.lst xs) ∧ xs.length < sizeLine ∧ ∃ m', m' < m ∧ W (i + 1) m' σ3 (upd H5 D (.lst (xs ++ [y])))
        else ∃ m', m' < m ∧ W (i + 1) m' σ3 H4))
    (hR : ∀ D s3 H3 s' σ' H', Inv X pins σ H3 s3 → (∀ b ∈ fp, FpOk X pins H3 b) → Inv (cxComp X M sc s3 H3 fp) [] σ' H' s' → Q (.ref D) H' → RR (.ref D) s3.heap.objs.size (.ok .next) s') :
    wpAny (model X.prog X.w) X.A (newList []) (fun acc s₃ => wpAny (model X.prog X.w) X.A (newFunctionEnv sc X.env.globals (cellPairs X.env sc.names []) [] X.env.qual none .none (some X.env)) (fun cenv s₄ =>
      codeAny (model X.prog X.w) X.A (.compStart (.ListComp elt [⟨tg, iter, ifs, 0⟩] sc pos) 0 (.ref it) acc { cenv with scope := relabel sc X.env }) (RR acc cenv.locals) s₄) X.xe s₃) X.xe s2 := by
  have fresh2 : H2 s2.heap.objs.size = none := I2.hok.fresh (Nat.le_refl _)
  obtain ⟨W, ⟨m0, w0⟩, turn⟩ := h _ fresh2
  have I3 : Inv X pins σ (upd H2 s2.heap.objs.size (.lst [])) { s2 with heap := s2.heap.push { cls := .type "list", data := .seq ([] : List Value).toArray } } :=
    I2.laid (t' := s2.toks) (fun _ _ q => Heap.get?_push_of_some _ q) (Nat.le_refl _) ⟨Nat.zero_le _, [], 0, .nil, Heap.get?_push_size _ rfl⟩
  have fpl : ∀ b ∈ fp, b < s2.heap.objs.size := fun b hb => let ⟨_, e, _⟩ := T.obj _ _ st b hb; Heap.lt_size e
  have hf3 : ∀ b ∈ fp, FpOk X pins (upd H2 s2.heap.objs.size (.lst [])) b := fun b hb => ⟨by rw [upd_ne (Nat.ne_of_lt (fpl b hb))]; exact (hf b hb).1, (hf b hb).2⟩
  have hsz : (s2.heap.push { cls := .type "list", data := .seq ([] : List Value).toArray }).objs.size = s2.heap.objs.size + 1 := Heap.size_push ..
  refine wpAny_newObj_type (wpAny_newFunctionEnv S.nocell (fun y hy => nomatch hy) (fun h1 hn1 hs1 => ?_) S.kind)
  generalize hs3 : ({ s2 with heap := s2.heap.push { cls := .type "list", dict := none, data := .seq ([] : List Value).toArray } } : Shared) = s3 at *
  have hk1 : ∀ b o, s3.heap.get? b = some o → h1.get? b = some o := fun b o e => (hs1.2 b (Nat.ne_of_lt (Heap.lt_size e))).trans (Heap.get?_push_of_some _ e)
  have lt3 : ∀ b ∈ fp, b < s3.heap.objs.size := fun b hb => by rw [← hs3]; show b < (s2.heap.push _).objs.size; rw [hsz]; exact Nat.lt_succ_of_lt (fpl b hb)
  have I4 : Inv (cxComp X M sc s3 (upd H2 s2.heap.objs.size (.lst [])) fp) [] (iniC js σ) (upd H2 s2.heap.objs.size (.lst [])) { s3 with heap := h1, toks := s3.toks + ([] : List (Str × Value)).length } := I3.comp S hf3 lt3 hn1 hk1
  obtain ⟨hg, ht, he⟩ := hb s3 (upd H2 s2.heap.objs.size (.lst [])) fp
  have stat : ∀ {H' : Hp}, (∀ b ∈ fp, H' b = none) → ∀ b ∈ fp, FpOk (cxComp X M sc s3 (upd H2 s2.heap.objs.size (.lst [])) fp) [] H' b := fun {H'} hn b hb =>
    ⟨hn b hb, Nat.ne_of_lt (lt3 b hb), I4.ok.exfs b hb, .inl hb, (I4.ok.exf b hb).2, fun p hp => absurd (show p ∈ ([] : List (Addr × Obj)) from hp) (by simp)⟩
  have st4 : tn 0 h1 := T.keep _ _ _ st fun b hb o e => hk1 b o (by rw [← hs3]; exact Heap.get?_push_of_some _ e)
  have fr4 : ∀ b ∈ fp, upd H2 s2.heap.objs.size (.lst []) b = none := fun b hb => (hf3 b hb).1
  have loop : codeAny (model X.prog X.w) X.A (.compLoop (.ListComp elt [⟨tg, iter, ifs, 0⟩] sc pos) 0 (.ref it) (.ref s2.heap.objs.size) (compEnvC sc (cellPairs X.env sc.names []) s3.heap.objs.size X.env)) (RR (.ref s2.heap.objs.size) s3.heap.objs.size)
      { s3 with heap := h1, toks := s3.toks + ([] : List (Str × Value)).length } := by
    refine comp_loop (fun n s' => ∃ i σ' H', Inv (cxComp X M sc s3 (upd H2 s2.heap.objs.size (.lst [])) fp) [] σ' H' s' ∧ tn i s'.heap ∧ (∀ b ∈ fp, H' b = none) ∧ W i n σ' H') ?_ m0 ⟨0, _, _, I4, st4, fr4, w0⟩
    rintro n s5 ⟨i, σ5, H5, I5, st5, fr5, w5⟩
    rcases turn i n σ5 H5 w5 with ⟨stop, q⟩ | ⟨go, step⟩
    · refine thn (T.done (cxComp X M sc s3 (upd H2 s2.heap.objs.size (.lst [])) fp) rfl rfl rfl hc i [] s5 σ5 H5 _ I5 (stat fr5) st5 stop) fun r s6 ⟨hr, I6⟩ => ?_
      subst hr
      exact hR _ _ _ _ _ _ I3 hf3 I6 q
    · refine thn (T.item (cxComp X M sc s3 (upd H2 s2.heap.objs.size (.lst [])) fp) rfl rfl rfl hc i [] s5 σ5 H5 _ I5 (stat fr5) st5 go) fun r s6 ⟨u, hr, h6⟩ => ?_
      subst hr
      refine thn h6 fun _ s7 ⟨x, H7, I7, r7, y7, st7, fr7⟩ => ?_
      have I7' := I7.pinned (stat fr7) (T.obj _ _ st7)
      have back : ∀ {σ8 : St} {H8 : Hp} {s8 : Shared}, Inv (cxComp X M sc s3 (upd H2 s2.heap.objs.size (.lst [])) fp) ([] ++ pinsAt fp s7.heap) σ8 H8 s8 → tn (i + 1) s8.heap ∧ (∀ b ∈ fp, H8 b = none) := fun {σ8 H8 s8} I8 =>
        ⟨T.keep _ _ _ st7 fun b hb o e => (I8.pin (b, o) (List.mem_append_right _ (List.mem_append_right _ (mem_pinsAt hb e)))).1, fun b hb => by
          obtain ⟨o, e, _⟩ := T.obj _ _ st7 b hb
          exact (I8.pin (b, o) (List.mem_append_right _ (List.mem_append_right _ (mem_pinsAt hb e)))).2.1⟩
      refine thn (hg _ s7 σ5 H7 x u _ I7' r7 (step x H7 y7)) fun _ s8 ⟨σ8, H8, I8, q8⟩ => ?_
      refine thn (ht _ s8 σ8 H8 _ I8 q8) fun ok s9 ⟨H9, I9, q9⟩ => ?_
      cases ok with
      | false =>
        rw [if_neg Bool.false_ne_true] at q9 ⊢
        obtain ⟨m', hm, w9⟩ := q9
        obtain ⟨a9, b9⟩ := back I9
        exact ⟨m', hm, i + 1, σ8, H9, I9.unpinned, a9, b9, w9⟩
      | true =>
        rw [if_pos rfl] at q9 ⊢
        refine thn (he _ s9 σ8 H9 _ I9 q9) fun y s10 ⟨yv, H10, I10, r10, xs, hD, hz, m', hm, w10⟩ => ?_
        refine thn (mt_append _ s10 σ8 H10 (.ref s2.heap.objs.size) [yv] (.ref s2.heap.objs.size) [y] (fun v H11 => v = .non ∧ H11 = upd H10 s2.heap.objs.size (.lst (xs ++ [yv]))) I10 rfl (.cons r10 .nil) ⟨_, xs, yv, rfl, rfl, hD, hz, rfl, rfl⟩) fun _ s11 ⟨v11, H11, I11, _, _, e11⟩ => ?_
        subst e11
        obtain ⟨a9, b9⟩ := back I11
        exact ⟨m', hm, i + 1, σ8, _, I11.unpinned, a9, b9, w10⟩
  exact codeAny_compStart_list loop (T.self _ 0 _ _ _ st4 loop)
theorem pe_comp {tg iter elt : Expr} {ifs : List Expr} {sc : Scope} {pos : Pos} {M : List Str} {js : List (Option Nat)} {wi : TI} {g : TG} {tt : TT} {te : TE} (S : CompScope X M js sc) (hc : X.calm = true) (hi : PI X tg iter wi)
    (hb : ∀ s3 H3 fp, PG (cxComp X M sc s3 H3 fp) tg g ∧ PTs (cxComp X M sc s3 H3 fp) ifs tt ∧ PE (cxComp X M sc s3 H3 fp) elt te) (hs : ∀ x, foldedSetIterable iter X.env x = pure x := by intro _; rfl) :
    PE X (.ListComp elt [⟨tg, iter, ifs, 0⟩] sc pos) (tComp wi js g tt te) := by
  intro pins s σ H Q I h
  rw [eval_ListComp]
  refine wpAny_comprehension_free (use := none) rfl hs (clos_of fun x hx => I.ok.has x (S.free x hx)) S.kind S.loc ?_
  show wpAny (model X.prog X.w) X.A (eval iter X.env) _ _ s
  refine thn (hi pins s σ H _ I h) fun v s1 h1 => thn h1 fun itv s2 ⟨it, fp, tn, J, H2, e, I2, T, st2, f2, h2⟩ => ?_
  subst e
  refine comp_block (RR := fun acc C => compPost (model X.prog X.w) X.A X.xe none (EP X pins σ Q) acc C) S hc I2 T st2 f2 hb h2 fun D s3 H3 s' σ' H' I3 f3 J' q => ?_
  obtain ⟨m, hm, _⟩ := J'.loc
  exact ⟨m, hm, fun h' hs' => ⟨.ref D, H', I3.uncomp f3 J' hs', rfl, q⟩⟩
theorem ps_setC {i : Nat} {y : Str} {tg iter elt : Expr} {ifs : List Expr} {sc : Scope} {pos py spos : Pos} {M : List Str} {js : List (Option Nat)} {wi : TI} {g : TG} {tt : TT} {te : TE} (hN : X.N.Nodup) (hy : X.N[i]? = some y) (hl : X.env.scope.names.lookup y = some .local)
    (S : CompScope X M js sc) (hc : X.calm = true) (hi : PI X tg iter wi) (hb : ∀ s3 H3 fp, PG (cxComp X M sc s3 H3 fp) tg g ∧ PTs (cxComp X M sc s3 H3 fp) ifs tt ∧ PE (cxComp X M sc s3 H3 fp) elt te)
    (hsw : swapsWith (.ListComp elt [⟨tg, iter, ifs, 0⟩] sc pos) (some (.Name y py)) spos.line X.env = pure true := by rfl) (hs : ∀ x, foldedSetIterable iter X.env x = pure x := by intro _; rfl) :
    PS X (.Assign [.Name y py] (.ListComp elt [⟨tg, iter, ifs, 0⟩] sc pos) spos) (tAsg (tComp wi js g tt te) (gName i)) := by
  intro pins s σ H D I h
  rw [exec_Assign_Name_used _ _ _ _ hsw]
  refine wpAny_bind (wpAny_standAt (wpAny_bind ?_))
  show wpAny (model X.prog X.w) X.A (do let _ ← comprehension (.ListComp elt [⟨tg, iter, ifs, 0⟩] sc pos) sc X.env _ (newList []) false (eval iter X.env) (some (assign (.Name y py) X.env))) _ _ s
  refine wpAny_bind (wpAny_mono (wpAny_comprehension_free (use := some (assign (.Name y py) X.env)) (Q := fun _ s' => SP X pins D .next s') rfl hs (clos_of fun x hx => I.ok.has x (S.free x hx)) S.kind S.loc ?_) (fun _ s' q => wpAny_pure (wpAny_pure q)) fun _ _ e => e)
  refine thn (hi pins s σ H _ I h) fun v s1 h1 => thn h1 fun itv s2 ⟨it, fp, tn, J, H2, e, I2, T, st2, f2, h2⟩ => ?_
  subst e
  refine comp_block (Q := fun x H1 => gName i x σ H1 D.nx) (RR := fun acc C => compPost (model X.prog X.w) X.A X.xe (some (assign (.Name y py) X.env)) (fun _ s' => SP X pins D .next s') acc C) S hc I2 T st2 f2 hb h2 fun Da s3 H3 s' σ' H' I3 f3 J' q => ?_
  have sb : Heap.SameBut s3.heap.objs.size s'.heap s'.heap := ⟨rfl, fun _ _ => rfl⟩
  have I5 : Inv X pins σ H' s' := I3.uncomp f3 J' sb
  obtain ⟨m, hm, _⟩ := J'.loc
  have ne : X.env.locals ≠ s3.heap.objs.size := Nat.ne_of_lt I3.lt
  show wpAny (model X.prog X.w) X.A (assign (.Name y py) X.env (.ref Da)) _ _ s'
  refine wpAny_assign_Name (store_ok2 I5 hN hy (.inl hl) (show RelV (.ref Da) (.ref Da) from rfl) (fun s6 I6 ⟨a, hsb, ha⟩ => ?_) (.inr hl))
  have cne : ∀ x c, X.env.cells.lookup x = some c → c ≠ s3.heap.objs.size := fun x c e => by
    obtain ⟨v', hv'⟩ := I3.cell x c e
    exact Nat.ne_of_lt hv'.lt
  have na : a ≠ s3.heap.objs.size := ha.elim (fun e => by rw [e]; exact ne) fun z => cne y a z
  refine ⟨m, hm.sameBut hsb (Ne.symm na), fun h' hs' => ⟨_, H', I6.turned (it := s3.heap.objs.size) (t' := s6.toks) (fun b o hb e => (hs'.2 b hb).trans e) J'.free (Ne.symm ne) (.inr I3.sz) cne (fun p hp => ?_), q⟩⟩
  exact Nat.ne_of_lt (Heap.lt_size (I3.pin p hp).1)
end
end L2
namespace L2
open PySem PySem.Spec PyProof.Rows
theorem len_dict_special : typeLookup (.type "dict") "__len__" = pure (some (.builtin "dict.__len__")) := by rw [typeLookup_type, builtinLookup_eq_fast]; kernel_rfl
section
variable {prog : Program} {w : World} {A : Around} {E : Value → Shared → Prop} {s : Shared}
theorem collect_dict {κ : Type} [DecidableEq κ] {knd : KeyKind prog w κ} {d : Addr} {kvs : List (κ × Value)} {Q : List Value → Shared → Prop} (hh : A.handled = none) (hd : (d == sysModules) = false) (hm : s.heap.DictOf knd d kvs) (hz : kvs.length ≤ sizeLine)
    (hQ : ∀ s' acc, s.heap.objs.size ≤ s'.heap.objs.size → (∀ b o, s.heap.get? b = some o → s'.heap.get? b = some o) → s'.gens = s.gens → s'.drawn = s.drawn → s'.os = s.os → ItemsOf (fun i v => ∃ k x, kvs[i]? = some (k, x) ∧ knd.is k v = true) acc kvs.length → Q acc.toList s') :
    wpAny (model prog w) A (collect (.ref d)) Q E s := by
  obtain ⟨ep, hm⟩ := hm.dictAt
  have hlt : d < s.heap.objs.size := hm.lt_size
  unfold collect
  refine wpAny_bind (wpAny_runValue (codeAny_builtin F.entry_proto_collect ?_))
  rw [Around.under_plainId F.plain_proto_collect _]
  show wpAny (model prog w) A.in1 (newList [] >>= fun l => again (.builtin "list.__iadd__" ⟨[l, .ref d], []⟩)) _ _ s
  refine wpAny_bind (wpAny_newObj_type ?_)
  refine wpAny_pure ⟨plainId_quiet F.plain_list_iadd _, codeAny_builtin F.entry_list_iadd ?_⟩
  rw [Around.under_plainId F.plain_list_iadd _]
  have hm1 := hm.push { cls := .type "list", data := .seq ([] : List Value).toArray }
  have hT1 : ({ s with heap := s.heap.push { cls := .type "list", data := .seq ([] : List Value).toArray } } : Shared).TypeIs (.ref d) "dict" := hm1.dictOf.typeIs
  show wpAny (model prog w) A.in1 (Builtin.List.listExtendWith (.ref s.heap.objs.size) (.ref d) (.ref s.heap.objs.size)) _ _ _
  unfold Builtin.List.listExtendWith
  refine wpAny_bind (wpAny_typeOf hT1 ?_)
  have h1 : Builtin.List.listSameRef (.ref s.heap.objs.size) (.ref d) = false := by simp [Builtin.List.listSameRef, Nat.ne_of_gt hlt]
  have h2 : (Value.type "dict" == Value.type "list") = false := by decide
  have h3 : (Value.type "dict" == Value.type "tuple") = false := by decide
  simp only [h1, h2, h3, Bool.or_false, Bool.false_eq_true, if_false]
  refine wpAny_bind (wpAny_pyIter_dict hd hm1 ?_)
  refine wpAny_bind (wpAny_holding ?_)
  have hm2 := hm1.push { cls := .type "dict_keyiterator", data := .fields #[.ref d, .int 0 0, .int kvs.length 0, .int ep 0] }
  have hT2 : ({ s with heap := (s.heap.push { cls := .type "list", data := .seq ([] : List Value).toArray }).push { cls := .type "dict_keyiterator", data := .fields #[.ref d, .int 0 0, .int kvs.length 0, .int ep 0] } } : Shared).TypeIs (.ref d) "dict" := hm2.dictOf.typeIs
  unfold Builtin.List.listLengthHint
  refine wpAny_bind (wpAny_specialOf hT2 len_dict_special ?_)
  generalize hid : ("dict.__len__" : String) = id0
  (fail_if_success (clear hid id0))
  wp_delta
  rw [show splitId id0 = some ("dict", "__len__") from by subst hid; decide +kernel]
  subst hid
  refine wpAny_bind (wpAny_isInstance (b := true) hT2 (by rw [isSubtype_type]; kernel_rfl) ?_)
  show wpAny (model prog w) A.in1 (typeOf (.ref d) >>= _) _ _ _
  refine wpAny_bind (wpAny_typeOf hT2 ?_)
  refine wpAny_pure ?_
  show wpAny (model prog w) A.in1 (rule "list.extend.makes-room" >>= fun _ => Builtin.List.listTouch (.ref s.heap.objs.size) >>= fun _ => again (.builtin "list.extend.loop" ⟨[.ref s.heap.objs.size, .ref _, .ref s.heap.objs.size], []⟩)) _ _ _
  refine wpAny_bind (wpAny_rule ?_)
  have hsz : (s.heap.push { cls := .type "list", data := .seq ([] : List Value).toArray }).objs.size = s.heap.objs.size + 1 := Heap.size_push ..
  generalize hh1 : s.heap.push { cls := .type "list", data := .seq ([] : List Value).toArray } = h1 at *
  have hS1 : h1.get? s.heap.objs.size = some { cls := .type "list", data := .seq ([] : List Value).toArray } := by rw [← hh1]; exact Heap.get?_push_size _ rfl
  have old1 : ∀ b o, s.heap.get? b = some o → h1.get? b = some o := fun b o e => by rw [← hh1]; exact Heap.get?_push_of_some _ e
  dsimp only
  have hI2 : (h1.push { cls := .type "dict_keyiterator", data := .fields #[.ref d, .int 0 0, .int kvs.length 0, .int ep 0] }).get? h1.objs.size = some { cls := .type "dict_keyiterator", data := .fields #[.ref d, .int 0 0, .int kvs.length 0, .int ep 0] } := Heap.get?_push_size _ rfl
  have hS2 : (h1.push { cls := .type "dict_keyiterator", data := .fields #[.ref d, .int 0 0, .int kvs.length 0, .int ep 0] }).get? s.heap.objs.size = some { cls := .type "list", data := .seq ([] : List Value).toArray } := Heap.get?_push_of_some _ hS1
  have old2 : ∀ b o, s.heap.get? b = some o → (h1.push { cls := .type "dict_keyiterator", data := .fields #[.ref d, .int 0 0, .int kvs.length 0, .int ep 0] }).get? b = some o := fun b o e => Heap.get?_push_of_some _ (old1 b o e)
  generalize hh2 : h1.push { cls := .type "dict_keyiterator", data := .fields #[.ref d, .int 0 0, .int kvs.length 0, .int ep 0] } = h2 at *
  have nSI : s.heap.objs.size ≠ h1.objs.size := by rw [hsz]; exact Nat.ne_of_lt (Nat.lt_succ_self _)
  have nSd : s.heap.objs.size ≠ d := Nat.ne_of_gt hlt
  have ndI : d ≠ h1.objs.size := by rw [hsz]; exact Nat.ne_of_lt (Nat.lt_succ_of_lt hlt)
  refine wpAny_bind ?_
  show wpAny (model prog w) A.in1 (updateSeq s.heap.objs.size (·.push .none) >>= fun _ => updateSeq s.heap.objs.size (·.pop)) _ _ _
  refine wpAny_bind (wpAny_updateSeq hS2 rfl ?_)
  have hS3 := Heap.get?_update_self (Obj.mapSeq (·.push Value.none)) hS2 rfl
  refine wpAny_updateSeq hS3 rfl ?_
  have hS4 := Heap.get?_update_self (Obj.mapSeq (·.pop)) hS3 rfl
  have oth : ∀ b o, b ≠ s.heap.objs.size → h2.get? b = some o → ((h2.update s.heap.objs.size (Obj.mapSeq (·.push Value.none))).update s.heap.objs.size (Obj.mapSeq (·.pop))).get? b = some o :=
    fun b o hb e => (Heap.get?_update_other _ _ (Ne.symm hb)).trans ((Heap.get?_update_other _ _ (Ne.symm hb)).trans e)
  have W := (Walks.dictKeys (prog := prog) (w := w) (A := A.in1) (knd := knd) hh h1.objs.size d ndI kvs ep).toS
  refine wpAny_pure ⟨plainId_quiet F.plain_extend_loop _, codeAny_extend_loopS W hz s.heap.objs.size (by simp; exact ⟨nSI, nSd⟩) _ kvs.length 0 _ _ _ rfl (Nat.zero_le _) ?_ hS4 (ItemsOf.nil _) fun s' acc' c' hmv hS' hacc => ?_⟩
  · exact ⟨⟨_, oth _ _ (Ne.symm nSI) hI2, rfl, rfl⟩, hm2.at' fun o e => oth _ _ (Ne.symm nSd) e⟩
  · show wpAny (model prog w) A (load s.heap.objs.size >>= _) _ _ s'
    refine wpAny_bind (wpAny_load hS' ?_)
    refine wpAny_pure (hQ s' acc' (Nat.le_of_lt (Heap.lt_size hS')) (fun b o e => ?_) hmv.gens hmv.drawn hmv.os hacc)
    have hb : b < s.heap.objs.size := Heap.lt_size e
    refine hmv.heap b o ?_ (oth b o (Nat.ne_of_lt hb) (old2 b o e))
    intro m
    rcases List.mem_cons.mp m with z | z
    · exact absurd hb (by rw [z]; exact Nat.lt_irrefl _)
    · have z := List.mem_singleton.mp z
      rw [hsz] at z
      exact absurd hb (by rw [z]; exact Nat.not_lt.mpr (Nat.le_succ _))
theorem sorted_by {x : Value} {Q : Value → Shared → Prop} (hc : ∀ (Q' : List Value → Shared → Prop), (∀ vs s', (∃ ns, IntsAre vs ns ∧ ∀ (out : Array Value) (ns' : List Int), IntsAre out.toList ns' → ns'.Perm ns → ns'.Pairwise (· ≤ ·) →
        Q (.ref s'.heap.objs.size) { s' with heap := sortedHeap (s'.heap.push (seqObj "list" vs.toArray 0)) s'.heap.objs.size vs out }) ∧ vs.length < 64 → Q' vs s') → wpAny (model prog w) A.in1 (collect x) Q' E s) : wpAny (model prog w) A (call (.builtin "sorted") [x]) Q E s := by
  refine call_function_tree kind_sorted plain_sorted entry_sorted (args_sorted1 _) ?_
  unfold Builtin.«sorted»
  refine wpAny_bind (m := checkCount "sorted" 1 1 _) (wpAny_pure ?_)
  refine wpAny_bind (hc _ fun vs s' ⟨⟨ns, hI, h⟩, h64⟩ => ?_)
  refine wpAny_bind (wpAny_newList ?_)
  have hoL : (s'.heap.push (seqObj "list" vs.toArray 0)).get? s'.heap.objs.size = some (seqObj "list" vs.toArray 0) := Heap.get?_push_size _ rfl
  show wpAny _ _ _ _ _ { s' with heap := s'.heap.push (seqObj "list" vs.toArray 0) }
  refine wpAny_bind (wpAny_holding (wpAny_call_entry slot_list_sort ⟨_, hoL, rfl⟩ entry_list_sort (list_sort_tree hoL hI h64 fun out ns' a1 a2 a3 => ⟨_, rfl, ?_⟩) (args_list_sort _)))
  exact wpAny_pure (h out ns' a1 a2 a3)
end
section
variable {X : Cx}
theorem ints_keys {P : Program} {w : World} : ∀ {ks : List Int} {kvs : List (Key × Value)} {vs : List Value}, kvs.map (·.1) = ks.map Sum.inl → vs.length = kvs.length → (∀ (i : Nat) v, vs[i]? = some v → ∃ k x, kvs[i]? = some (k, x) ∧ (mixKind P w).is k v = true) → IntsAre vs ks
  | [], [], vs, _, hl, _ => by cases vs with
    | nil => exact .nil
    | cons _ _ => simp at hl
  | [], _ :: _, _, e, _, _ => by simp at e
  | _ :: _, [], _, e, _, _ => by simp at e
  | k :: ks, (q, x) :: kvs, vs, e, hl, h => by
    simp only [List.map_cons, List.cons.injEq] at e
    obtain ⟨rfl, e⟩ := e
    cases vs with
    | nil => simp at hl
    | cons v vs =>
      obtain ⟨k', x', e0, hk⟩ := h 0 v rfl
      have e0' : (Sum.inl k, x) = (k', x') := Option.some.inj e0
      cases e0'
      rcases keyIs_shape (show keyIs (Sum.inl k) v = true from hk) with ⟨i, t, e1, e2⟩ | ⟨y, t, e1, e2⟩
      · cases e1
        subst e2
        exact .cons k t (ints_keys e (by simpa using hl) fun i v hv => h (i + 1) v (by simpa using hv))
      · cases e1
def rSorted (K : PySem.W.Frag) : List V → Hp → VK → Prop := fun xs H Q => ∃ (p : Addr) (ks : List Int), xs = [.ref p] ∧ ks.length < 64 ∧ ((∃ kvs : List (Key × V), H p = some (.dK kvs) ∧ kvs.map (·.1) = ks.map Sum.inl) ∨ SqL K H p (ks.map V.int)) ∧
  ∀ (l : Addr) (ks' : List Int), H l = none → ks'.Perm ks → ks'.Pairwise (· ≤ ·) → Q (.ref l) (upd H l (.lst (ks'.map V.int)))
theorem call_sorted (hc : X.calm = true) : CallR X (.builtin "sorted") (rSorted X.K) := by
  intro pins s σ H xs us Q I r h
  obtain ⟨p, ks, rfl, h64, hsrc, q⟩ := h
  obtain ⟨u, rfl, ru⟩ := vals1 r
  cases ru
  have fin : ∀ (vs : List Value) (s' : Shared), s.heap.objs.size ≤ s'.heap.objs.size → (∀ b o, s.heap.get? b = some o → s'.heap.get? b = some o) → s'.gens = s.gens → s'.drawn = s.drawn → s'.os = s.os → ∀ (out : Array Value) (ns' : List Int), IntsAre out.toList ns' → ns'.Perm ks → ns'.Pairwise (· ≤ ·) →
      EP X pins σ Q (.ref s'.heap.objs.size) { s' with heap := sortedHeap (s'.heap.push (seqObj "list" vs.toArray 0)) s'.heap.objs.size vs out } := by
    intro vs s' hle hk e1 e2 e3 out ns' a1 a2 a3
    obtain ⟨h', g', d', t', o'⟩ := s'
    dsimp only at e1 e2 e3 hk hle
    subst e1 e2 e3
    obtain ⟨e, he⟩ := sortedHeap_at (vs := vs) (n := 0) (out := out) (show (h'.push (seqObj "list" vs.toArray 0)).get? h'.objs.size = some (seqObj "list" vs.toArray 0) from Heap.get?_push_size _ rfl)
    have hlen : ns'.length < 64 := by rw [a2.length_eq]; exact h64
    refine ⟨.ref h'.objs.size, upd H h'.objs.size (.lst (ns'.map V.int)), I.laid (t' := t') (fun b o eb => ?_) hle ?_, rfl, q _ ns' (I.hok.fresh hle) a2 a3⟩
    · have hb : b < h'.objs.size := Heap.lt_size (hk b o eb)
      rw [sortedHeap_old (Nat.ne_of_lt hb) (by rw [Heap.size_push]; exact Nat.lt_succ_of_lt hb)]
      exact Heap.get?_push_of_some _ (hk b o eb)
    · exact ⟨by rw [List.length_map]; exact Nat.le_of_lt (small1000 (by omega)), out.toList, e, vals_ints a1, by rw [he]⟩
  have hh : X.A.handled = none := I.ok.hd hc
  refine sorted_by fun Q' hQ' => ?_
  rcases hsrc with ⟨kvs, hp, hk⟩ | hp
  · obtain ⟨hz, hd, vs, rel, dd⟩ := dk_of I.hok hp
    refine collect_dict (A := X.A.in1) hh hd dd (by rw [← rel.length]; exact hz) fun s' acc hle kp e1 e2 e3 it => hQ' _ s' ⟨⟨ks, ?_, fun out ns' a1 a2 a3 => fin _ s' hle kp e1 e2 e3 out ns' a1 a2 a3⟩, ?_⟩
    · refine ints_keys (P := X.prog) (w := X.w) (kvs := vs) (by rw [← rel.keys]; exact hk) (by rw [Array.length_toList]; exact it.1) fun i v hv => it.2 i v (by rw [← Array.getElem?_toList]; exact hv)
    · rw [Array.length_toList, it.1, ← rel.length]
      have := congrArg List.length hk
      rw [List.length_map, List.length_map] at this
      omega
  · obtain ⟨its, rv, pl, hz⟩ := I.list hp
    have hi := intsAre_of rv
    have k1 : s.heap.objs.size ≤ ((s.heap.push (seqObj "list" #[] 0)).update s.heap.objs.size (Obj.mapSeq (· ++ its.toArray))).objs.size := by
      rw [Heap.size_update, Heap.size_push]; exact Nat.le_succ _
    have k2 : ∀ b o, s.heap.get? b = some o → ((s.heap.push (seqObj "list" #[] 0)).update s.heap.objs.size (Obj.mapSeq (· ++ its.toArray))).get? b = some o := fun b o e =>
      (Heap.get?_update_other _ _ (Nat.ne_of_gt (Heap.lt_size e))).trans (Heap.get?_push_of_some _ e)
    refine collect_list pl.isList (hQ' _ _ ⟨⟨ks, hi, fun out ns' a1 a2 a3 => fin its { s with heap := (s.heap.push (seqObj "list" #[] 0)).update s.heap.objs.size (Obj.mapSeq (· ++ its.toArray)) } k1 k2 rfl rfl rfl out ns' a1 a2 a3⟩, ?_⟩) (by rw [← rv.length]; exact hz)
    rw [← rv.length, List.length_map]; exact h64
end
end L2
namespace L2
open PySem PySem.Spec PyProof.Rows
theorem argsMinD (a d : Value) : argsOk "min" ⟨[a], [("default", d)]⟩ := by unfold argsOk; kernel_rfl
section
variable {prog : Program} {w : World} {A : Around} {R : Result → Shared → Prop} {it : Addr} {fps wrs : List Addr} {n : Nat} {P : Nat → Value → Prop} {T : Nat → Heap → Prop}
theorem nameMin : (toString "min" ++ toString ".loop" : String) = "min.loop" := by decide
theorem minD_loop (W : Walks prog w A.in1 it fps wrs n P T) (bt : Nat → Nat → Bool) (hcmp : CmpOf prog w A.in1 .Lt P bt) (kw : List (Str × Value)) (B : Addr) (hB : B ∉ fps) :
    ∀ (k j : Nat) (s : Shared) (vb : Value) (c : Nat), n - (j + 1) = k → j + 1 ≤ n → T (j + 1) s.heap → P (argBest bt j) vb → s.heap.get? B = some { cls := .type "list", dict := none, data := .seq #[vb, vb] c, slots := #[] } →
      (∀ v h' tk, P (argBest bt (n - 1)) v → (∀ b o, b ∉ wrs → b ≠ B → s.heap.get? b = some o → h'.get? b = some o) → R (.ok (.ret v)) { s with heap := h', toks := tk }) →
      codeAny (model prog w) A (.builtin "min.loop" ⟨[.ref it, .none, .ref B], kw⟩) R s := by
  have nB : B ∉ wrs := fun m => hB (W.sub _ m)
  intro k
  induction k with
  | zero =>
    intro j s vb c e1 e2 st pb gB fin
    have en : j + 1 = n := by omega
    refine codeAny_builtin F.entry_min_loop ?_
    rw [Around.under_plainId F.plain_min_loop _]
    show wpAny (model prog w) A.in1 (seqItems? (.ref B) >>= _) _ _ s
    refine wpAny_bind (wpAny_seqItems gB rfl ?_)
    show wpAny (model prog w) A.in1 (tryCatch (pyNext (.ref it)) _ >>= _) _ _ s
    refine wpAny_bind (wpAny_tryCatch (W.done s _ _ (en ▸ st) fun h1 t1 kp => ?_))
    have gB1 := kp B _ nB gB
    show wpAny (model prog w) A.in1 (updateSeq B (fun _ => #[]) >>= _) _ _ _
    refine wpAny_bind (wpAny_updateSeq gB1 rfl (wpAny_bind (wpAny_letGo (wpAny_pure ?_))))
    exact fin vb _ t1 (by rw [← en]; exact pb) fun b o m1 m2 e => (Heap.get?_update_other _ _ (Ne.symm m2)).trans (kp b o m1 e)
  | succ k ih =>
    intro j s vb c e1 e2 st pb gB fin
    have lt : j + 1 < n := by omega
    refine codeAny_builtin F.entry_min_loop ?_
    rw [Around.under_plainId F.plain_min_loop _]
    show wpAny (model prog w) A.in1 (seqItems? (.ref B) >>= _) _ _ s
    refine wpAny_bind (wpAny_seqItems gB rfl ?_)
    show wpAny (model prog w) A.in1 (tryCatch (pyNext (.ref it)) _ >>= _) _ _ s
    refine wpAny_bind (wpAny_tryCatch (W.item (j + 1) s _ _ lt st fun v h1 t1 pv st1 kp => ?_))
    have gB1 := kp B _ nB gB
    show wpAny (model prog w) A.in1 (tryCatch (holding [v, v] (richCompare .Lt v vb >>= _)) _ >>= _) _ _ _
    refine wpAny_bind (wpAny_tryCatch (wpAny_holding (wpAny_bind (hcmp (j + 1) (argBest bt j) v vb _ _ _ pv pb ?_))))
    refine wpAny_bind (wpAny_holding (wpAny_truthy_bool (wpAny_bind (wpAny_letGo (wpAny_pure ?_)))))
    cases hb : bt (j + 1) (argBest bt j) with
    | true =>
      simp only [if_true]
      refine wpAny_bind (wpAny_updateSeq gB1 rfl (wpAny_bind (wpAny_letGo ?_)))
      rw [nameMin]
      refine wpAny_pure ⟨plainId_quiet F.plain_min_loop _, ih (j + 1) _ v _ (by omega) lt (W.frame _ _ _ st1 fun b m o e => (Heap.get?_update_other _ _ (fun z : B = b => hB (by rw [z]; exact m))).trans e)
        (by simp only [argBest, hb, if_true]; exact pv) (Heap.get?_update_self _ gB1 rfl) fun v2 h2 t2 p2 k2 => ?_⟩
      exact fin v2 h2 t2 p2 fun b o m1 m2 e => k2 b o m1 m2 ((Heap.get?_update_other _ _ (Ne.symm m2)).trans (kp b o m1 e))
    | false =>
      simp only [Bool.false_eq_true, if_false]
      refine wpAny_bind (wpAny_letGo ?_)
      rw [nameMin]
      refine wpAny_pure ⟨plainId_quiet F.plain_min_loop _, ih (j + 1) _ vb c (by omega) lt st1 (by simp only [argBest, hb, Bool.false_eq_true, if_false]; exact pb) gB1 fun v2 h2 t2 p2 k2 => ?_⟩
      exact fin v2 h2 t2 p2 fun b o m1 m2 e => k2 b o m1 m2 (kp b o m1 e)
theorem minD_first (W : Walks prog w A.in1 it fps wrs n P T) (bt : Nat → Nat → Bool) (hcmp : CmpOf prog w A.in1 .Lt P bt) (key : Str) (dv : Value) (B : Addr) (hB : B ∉ fps) {s : Shared} {c : Nat} (st : T 0 s.heap)
    (gB : s.heap.get? B = some { cls := .type "list", dict := none, data := .seq #[] c, slots := #[] })
    (fin : ∀ v h' tk, (n = 0 ∧ v = dv ∨ 0 < n ∧ P (argBest bt (n - 1)) v) → (∀ b o, b ∉ wrs → b ≠ B → s.heap.get? b = some o → h'.get? b = some o) → R (.ok (.ret v)) { s with heap := h', toks := tk }) :
    codeAny (model prog w) A (.builtin "min.loop" ⟨[.ref it, .none, .ref B], [(key, dv)]⟩) R s := by
  have nB : B ∉ wrs := fun m => hB (W.sub _ m)
  refine codeAny_builtin F.entry_min_loop ?_
  rw [Around.under_plainId F.plain_min_loop _]
  show wpAny (model prog w) A.in1 (seqItems? (.ref B) >>= _) _ _ s
  refine wpAny_bind (wpAny_seqItems gB rfl ?_)
  show wpAny (model prog w) A.in1 (tryCatch (pyNext (.ref it)) _ >>= _) _ _ s
  by_cases hn : 0 < n
  · refine wpAny_bind (wpAny_tryCatch (W.item 0 s _ _ hn st fun v h1 t1 pv st1 kp => ?_))
    have gB1 := kp B _ nB gB
    show wpAny (model prog w) A.in1 (updateSeq B (fun _ => #[v, v]) >>= _) _ _ _
    refine wpAny_bind (wpAny_updateSeq gB1 rfl ?_)
    rw [nameMin]
    refine wpAny_pure ⟨plainId_quiet F.plain_min_loop _, minD_loop W bt hcmp _ B hB _ 0 _ v _ rfl hn (W.frame _ _ _ st1 fun b m o e => (Heap.get?_update_other _ _ (fun z : B = b => hB (by rw [z]; exact m))).trans e) pv (Heap.get?_update_self _ gB1 rfl) fun v2 h2 t2 p2 k2 => ?_⟩
    exact fin v2 h2 t2 (.inr ⟨hn, p2⟩) fun b o m1 m2 e => k2 b o m1 m2 ((Heap.get?_update_other _ _ (Ne.symm m2)).trans (kp b o m1 e))
  · have en : n = 0 := by omega
    refine wpAny_bind (wpAny_tryCatch (W.done s _ _ (en ▸ st) fun h1 t1 kp => ?_))
    show wpAny (model prog w) A.in1 (rule _ >>= fun _ => ret dv) _ _ _
    exact wpAny_bind (wpAny_rule (wpAny_pure (fin dv h1 t1 (.inl ⟨en, rfl⟩) fun b o m1 _ e => kp b o m1 e)))
end
section
variable {prog : Program} {w : World} {A : Around} {E : Value → Shared → Prop} {s : Shared}
theorem call_tree_kw {id : String} {b : Builtin} {args : List Value} {kw : List (Str × Value)} {Q : Value → Shared → Prop} (hk : builtinKind id = none) (hp : plainId id = true) (hb : entryFor table id = some b) (ha : argsOk id ⟨args, kw⟩)
    (hc : wpAny (model prog w) A.in1 (b ⟨args, kw⟩) (fun fin s' => match fin with
      | .done f => (match (Except.ok f : Result) with | .ok (.ret v) => Q v s' | .ok _ => False | .error e => E e s')
      | .again c => c.quiet = true ∧ codeAny (model prog w) A c (fun r s' => match r with | .ok (.ret v) => Q v s' | .ok _ => False | .error e => E e s') s') E s) : wpAny (model prog w) A (call (.builtin id) args kw) Q E s := by
  refine wpAny_call (codeAny_call_builtin hp hb ?_)
  simp only [checkBuiltinCall, hk]
  cases hsig : Manifest.signature? id with
  | none => exact wpAny_pure hc
  | some sig =>
    have h2 : Bind.checkArgs id sig ⟨args, kw⟩ = pure () := by simpa only [argsOk, hsig] using ha
    simp only [h2]
    exact wpAny_pure hc
theorem ints_at : ∀ {vs : List Value} {ns : List Int} {i : Nat} {v : Value}, IntsAre vs ns → vs[i]? = some v → ∃ t, v = Value.int (ns.getD i 0) t
  | _, _, _, _, .nil, e => by simp at e
  | _, _, 0, _, .cons n t h, e => by
    have e' := Option.some.inj e
    subst e'
    exact ⟨t, rfl⟩
  | _, _, i + 1, v, .cons n t h, e => by
    obtain ⟨u, eu⟩ := ints_at (i := i) (v := v) h (by simpa using e)
    exact ⟨u, by simpa using eu⟩
theorem mem_getD' {ns : List Int} {i : Nat} (h : i < ns.length) : ns.getD i 0 ∈ ns := by
  rw [List.getD_eq_getElem?_getD, List.getElem?_eq_getElem h]
  exact List.getElem_mem h
theorem minD_list {l : Addr} {vs : List Value} {ns : List Int} {dv : Value} {Q : Value → Shared → Prop} (hh : A.handled = none) (hl : s.heap.IsList l vs.toArray) (hi : IntsAre vs ns)
    (fin : ∀ v h' tk, (ns = [] ∧ v = dv ∨ ∃ m t, v = .int m t ∧ m ∈ ns ∧ ∀ x ∈ ns, m ≤ x) → (∀ b o, s.heap.get? b = some o → h'.get? b = some o) → Q v { s with heap := h', toks := tk }) :
    wpAny (model prog w) A (call (.builtin "min") [.ref l] [("default", dv)]) Q E s := by
  refine call_tree_kw F.kind_min F.plain_min F.entry_min (argsMinD _ _) ?_
  show wpAny (model prog w) A.in1 (Builtin.Builtins.bindParams "min" ["key", "default"] 0 ⟨[], [("default", dv)]⟩ >>= _) _ _ s
  refine wpAny_bind (wpAny_of_eq (show Builtin.Builtins.bindParams "min" ["key", "default"] 0 ⟨[], [("default", dv)]⟩ = pure [none, some dv] from rfl) ?_)
  refine wpAny_bind (wpAny_pure (wpAny_bind (wpAny_pyIter_list hl ?_)))
  refine wpAny_bind (wpAny_newObj_type ?_)
  rw [nameMin]
  have hls : l < s.heap.objs.size := let ⟨_, ho, _⟩ := hl; Heap.lt_size ho
  have hsz : (s.heap.push { cls := .type "list_iterator", data := .fields #[.ref l, .int 0 0] }).objs.size = s.heap.objs.size + 1 := Heap.size_push ..
  have hv : ∀ (i : Nat) (v : Value), vs.toArray[i]? = some v → ∃ t, v = Value.int (ns.getD i 0) t := fun i v e => ints_at hi (by simpa using e)
  have hlen : vs.length = ns.length := hi.length
  generalize hh1 : s.heap.push { cls := .type "list_iterator", data := .fields #[.ref l, .int 0 0] } = h1 at *
  have g1 : h1.get? s.heap.objs.size = some { cls := .type "list_iterator", data := .fields #[.ref l, .int 0 0] } := by rw [← hh1]; exact Heap.get?_push_size _ rfl
  have old : ∀ b o, s.heap.get? b = some o → h1.get? b = some o := fun b o e => by rw [← hh1]; exact Heap.get?_push_of_some _ e
  have nl : l ≠ s.heap.objs.size := Nat.ne_of_lt hls
  have W := Walks.list (prog := prog) (w := w) (A := A.in1.in1) hh s.heap.objs.size l nl vs.toArray
  have hB : h1.objs.size ∉ [s.heap.objs.size, l] := by
    intro m
    rcases List.mem_cons.mp m with z | z
    · rw [hsz] at z; exact absurd z (Nat.ne_of_gt (Nat.lt_succ_self _))
    · have z := List.mem_singleton.mp z
      rw [hsz] at z
      exact absurd z (Nat.ne_of_gt (Nat.lt_succ_of_lt hls))
  refine wpAny_pure ⟨plainId_quiet F.plain_min_loop _, minD_first W.of_in1 (fun i j => decide (ns.getD i 0 < ns.getD j 0)) (CmpOf.ints_lt (fun i => ns.getD i 0) hv) _ dv h1.objs.size hB (c := 0) ?_ (Heap.get?_push_size _ rfl) fun v h' tk hres kp => ?_⟩
  · exact ⟨⟨_, Heap.get?_push_of_some _ g1, rfl, rfl⟩, hl.at fun o e => Heap.get?_push_of_some _ (old l o e)⟩
  · refine fin v h' tk ?_ fun b o e => kp b o ?_ ?_ (Heap.get?_push_of_some _ (old b o e))
    · have hs2 : vs.toArray.size = ns.length := by rw [List.size_toArray, hlen]
      rw [hs2] at hres
      rcases hres with ⟨h0, e⟩ | ⟨h0, pv⟩
      · exact .inl ⟨List.eq_nil_of_length_eq_zero h0, e⟩
      · obtain ⟨t, e⟩ := hv _ v pv
        obtain ⟨a1, a2⟩ := argBest_lt (fun i => ns.getD i 0) (ns.length - 1)
        refine .inr ⟨_, t, e, mem_getD' (by omega), fun x hx => ?_⟩
        obtain ⟨j, hj, rfl⟩ := List.getElem_of_mem hx
        have := a2 j (by omega)
        rw [show ns[j] = ns.getD j 0 by rw [List.getD_eq_getElem?_getD, List.getElem?_eq_getElem hj]; rfl]
        exact this
    · intro m
      exact absurd (Heap.lt_size e) (by rw [List.mem_singleton.mp m]; exact Nat.lt_irrefl _)
    · intro z
      exact absurd (Heap.lt_size e) (by rw [z, hsz]; exact Nat.not_lt.mpr (Nat.le_succ _))
end
section
variable {X : Cx} {p pos : Pos} {a : Expr} {ta td : TE}
def tMinD (K : PySem.W.Frag) (ta td : TE) : TE := fun σ H Q => ta σ H fun x H1 => td σ H1 fun y H2 => ∃ (l : Addr) (ns : List Int), x = .ref l ∧ SqL K H2 l (ns.map V.int) ∧ ((ns = [] ∧ Q y H2) ∨ ns ≠ [] ∧ ∀ m, m ∈ ns → (∀ n ∈ ns, m ≤ n) → Q (.int m) H2)
theorem pe_minD {b : Expr} {kp : Pos} (hc : X.calm = true) (hm : X.mg "min" = none) (ha : PE X a ta) (hb : PE X b td) (hg : Gl X "min" := by rfl) (hs : starEach [a] X.env = [(false, eval a X.env)] := by rfl)
    (h1 : backTo pos (starEach [a] X.env) = (false, eval a X.env) :: backTo pos (starEach [] X.env) := by rfl) (h2 : (backTo pos (starEach [a] X.env)).any (·.1) = false := by rfl)
    (h3 : (backToKw pos (keywordEach [⟨some "default", b, kp⟩] X.env)).all (·.1.isSome) = true := by rfl) (h4 : (backToKw pos (keywordEach [⟨some "default", b, kp⟩] X.env)).any (·.1.isNone) = false := by rfl)
    (h5 : (backToKw pos (keywordEach [⟨some "default", b, kp⟩] X.env)).filterMap (·.1) = [("default" : Str)] := by rfl) :
    PE X (.Call (.Name "min" p) [a] [⟨some "default", b, kp⟩] pos) (tMinD X.K ta td) := by
  intro pins s σ H Q I h
  refine wpAny_Call_Name_kw (ld_blt I hg hm (show bootBuiltins "min" = some (.builtin "min") by decide +kernel) ?_ (by decide) (by decide))
  refine callWith_kw ?_ h1 h2 h3 h4
  rw [h5]
  refine thn (pa_cons ha pa_nil hs pos pins s σ H (fun vs H1 => match vs with | [x] => td σ H1 fun y H2 => ∃ (l : Addr) (ns : List Int), x = .ref l ∧ SqL X.K H2 l (ns.map V.int) ∧ ((ns = [] ∧ Q y H2) ∨ ns ≠ [] ∧ ∀ m, m ∈ ns → (∀ n ∈ ns, m ≤ n) → Q (.int m) H2) | _ => False) I h) fun us s1 ⟨vs, H1, I1, rv, q1⟩ => ?_
  rcases vs with _ | ⟨x, _ | ⟨x2, r2⟩⟩
  · exact q1.elim
  · obtain ⟨u, rfl, ru⟩ := vals1 rv
    refine kws_cons (thn (hb pins s1 σ H1 _ I1 q1) fun dv s2 ⟨y, H2, I2, ry, l, ns, ex, hq, q2⟩ => kws_nil ?_)
    subst ex
    cases ru
    obtain ⟨its, ri, pl, hz⟩ := I2.list hq
    refine minD_list (I2.ok.hd hc) pl.isList (intsAre_of ri) fun v h' tk hres kp => ?_
    rcases hres with ⟨en, ev⟩ | ⟨m, t, ev, hm1, hm2⟩
    · subst ev
      rcases q2 with ⟨_, q2⟩ | ⟨ne, _⟩
      · exact ⟨y, H2, I2.kept (t' := tk) kp, ry, q2⟩
      · exact absurd en ne
    · subst ev
      rcases q2 with ⟨en, _⟩ | ⟨_, q2⟩
      · rw [en] at hm1; cases hm1
      · exact ⟨.int m, H2, I2.kept (t' := tk) kp, ⟨t, rfl⟩, q2 m hm1 hm2⟩
  · exact q1.elim
end
end L2
namespace PySem
theorem ld_nokeys_list : typeLookup (.type "list") "keys" = pure none := by rw [typeLookup_type, builtinLookup_eq_fast]; kernel_rfl
theorem ld_nokeys_tuple : typeLookup (.type "tuple") "keys" = pure none := by rw [typeLookup_type, builtinLookup_eq_fast]; kernel_rfl
section
variable {prog : Program} {w : World} {A : Around} {E : Value → Shared → Prop} {s : Shared} {a : Addr} {xs : Array Value} {k : Nat} {sl : Array (Option Value)} {Q : Option Value → Shared → Prop}
theorem ld_keys_list (hx : s.heap.get? a = some { cls := .type "list", dict := none, data := .seq xs k, slots := sl }) (hA : A.handled = none)
    (h : ∀ h' tk, (∀ b o, s.heap.get? b = some o → h'.get? b = some o) → Q none { s with heap := h', toks := tk }) : wpAny (model prog w) A (getAttr? (.ref a) "keys") Q E s := by
  obtain ⟨hp, g, d, tk, os⟩ := s
  have hT : ∀ tk', (⟨hp, g, d, tk', os⟩ : Shared).TypeIs (.ref a) "list" := fun _ => ⟨_, hx, rfl⟩
  have f1 := sub_AttributeError
  have f3 := F.slot_list_getattribute.lookup
  have f4 := F.slot_list_getattribute.bind (.ref a)
  have f5 := am_list_getattr_none
  unfold getAttr? getAttrBy? getAttrBy
  repeat (any_goals (first | assumption | exact hT _ | ((with_reducible show wpAny _ _ (call (Value.builtin "list.__getattribute__") _ _) _ _ _); refine call_meets F.slot_list_getattribute (hT _) am_entry_list_getattribute (F.args_list_getattribute_2 _ _) (meets_getattribute_miss_list a xs k sl "keys" _ ld_nokeys_list (by decide +kernel)) ⟨hx, hA, fun h' tk' e hx' => ?_⟩) | wp_step))
  obtain ⟨t', u', he⟩ := hx'.there
  show wpAny _ _ (getattributeRaised _ _ _ _ _ _ _) _ _ _
  unfold getattributeRaised
  repeat (any_goals (first | assumption | wp_step))
  all_goals exact h _ _ hx'.keeps
theorem ld_keys_tuple (hx : s.heap.get? a = some { cls := .type "tuple", dict := none, data := .seq xs k, slots := sl }) (hA : A.handled = none)
    (h : ∀ h' tk, (∀ b o, s.heap.get? b = some o → h'.get? b = some o) → Q none { s with heap := h', toks := tk }) : wpAny (model prog w) A (getAttr? (.ref a) "keys") Q E s := by
  obtain ⟨hp, g, d, tk, os⟩ := s
  have hT : ∀ tk', (⟨hp, g, d, tk', os⟩ : Shared).TypeIs (.ref a) "tuple" := fun _ => ⟨_, hx, rfl⟩
  have f1 := sub_AttributeError
  have f3 := F.slot_tuple_getattribute.lookup
  have f4 := F.slot_tuple_getattribute.bind (.ref a)
  have f5 := am_tuple_getattr_none
  unfold getAttr? getAttrBy? getAttrBy
  repeat (any_goals (first | assumption | exact hT _ | ((with_reducible show wpAny _ _ (call (Value.builtin "tuple.__getattribute__") _ _) _ _ _); refine call_meets F.slot_tuple_getattribute (hT _) am_entry_tuple_getattribute (F.args_tuple_getattribute_2 _ _) (meets_getattribute_miss_tuple a xs k sl "keys" _ ld_nokeys_tuple (by decide +kernel)) ⟨hx, hA, fun h' tk' e hx' => ?_⟩) | wp_step))
  obtain ⟨t', u', he⟩ := hx'.there
  show wpAny _ _ (getattributeRaised _ _ _ _ _ _ _) _ _ _
  unfold getattributeRaised
  repeat (any_goals (first | assumption | wp_step))
  all_goals exact h _ _ hx'.keeps
end
end PySem
namespace L2
open PySem PySem.Spec PyProof.Rows
theorem ld_plain_loop : plainId "dict.update.loop" = true := by decide +kernel
theorem ld_entry_loop : entryFor table "dict.update.loop" = some Builtin.«dict.update.loop» := entryFor_of_fast (by kernel_rfl)
def pairAt {prog : Program} {w : World} {κ : Type} [DecidableEq κ] (knd : KeyKind prog w κ) (h : Heap) (no : List Addr) (v : Value) (p : κ × Value) : Prop := ∃ a key, v = .ref a ∧ a ∉ no ∧ IsTup h a #[key, p.2] ∧ knd.is p.1 key = true
section
variable {prog : Program} {w : World} {A : Around} {R : Result → Shared → Prop} {κ : Type} [DecidableEq κ] {knd : KeyKind prog w κ} {it d : Addr} {fps wrs : List Addr} {n : Nat} {P : Nat → Value → Prop} {T : Nat → Heap → Prop}
theorem dictOf_loop (W : Walks prog w A.in1 it fps wrs n P T) (hd : d ∉ fps) (h0 : Heap) (ps : List (κ × Value)) (hn : ps.length = n) (hP : ∀ i v, P i v → ∃ p, ps[i]? = some p ∧ pairAt knd h0 (d :: wrs) v p) (res : Value) :
    ∀ (k i : Nat) (s : Shared) (m : List (κ × Value)) (tki : Tok), n - i = k → i ≤ n → T i s.heap → s.heap.DictOf knd d m → m.length + (n - i) ≤ sizeLine → (∀ b o, b ∉ d :: wrs → h0.get? b = some o → s.heap.get? b = some o) →
      (∀ h' tk, h'.DictOf knd d ((ps.drop i).foldl (fun m p => stored m p.1 p.2) m) → (∀ b o, b ∉ d :: wrs → h0.get? b = some o → h'.get? b = some o) → R (.ok (.ret res)) { s with heap := h', toks := tk }) →
      codeAny (model prog w) A (.builtin "dict.update.loop" ⟨[.ref d, .ref it, .int i tki, res], []⟩) R s := by
  have nd : d ∉ wrs := fun m => hd (W.sub _ m)
  intro k
  induction k with
  | zero =>
    intro i s m tki e1 e2 st dm hz kp fin
    have en : i = n := by omega
    subst en
    refine codeAny_builtin ld_entry_loop ?_
    rw [Around.under_plainId ld_plain_loop _]
    show wpAny (model prog w) A.in1 (pyNext (.ref it) >>= _) _ _ s
    refine wpAny_bind (W.done s _ _ st fun h1 t1 k1 => ?_)
    show wpAny (model prog w) A.in1 (Builtin.Dict.addKeywords d [] >>= fun _ => ret res) _ _ _
    refine wpAny_bind (wpAny_pure (wpAny_pure (fin h1 t1 ?_ fun b o mb e => k1 b o (fun z => mb (List.mem_cons_of_mem _ z)) (kp b o mb e))))
    rw [List.drop_eq_nil_of_le (by omega)]
    obtain ⟨o, es, ep, ho, r⟩ := dm
    exact ⟨o, es, ep, k1 d o nd ho, r⟩
  | succ k ih =>
    intro i s m tki e1 e2 st dm hz kp fin
    have lt : i < n := by omega
    refine codeAny_builtin ld_entry_loop ?_
    rw [Around.under_plainId ld_plain_loop _]
    show wpAny (model prog w) A.in1 (pyNext (.ref it) >>= _) _ _ s
    refine wpAny_bind (W.item i s _ _ lt st fun v h1 t1 pv st1 k1 => ?_)
    obtain ⟨p, ep, a, key, rfl, na, hpt, hkey⟩ := hP i v pv
    have dm1 : h1.DictOf knd d m := by
      obtain ⟨o, es, ep, ho, r⟩ := dm
      exact ⟨o, es, ep, k1 d o nd ho, r⟩
    obtain ⟨oa, hoa, hca, na', hda⟩ := hpt
    have ga : h1.get? a = some oa := k1 a oa (fun z => na (List.mem_cons_of_mem _ z)) (kp a oa na hoa)
    refine wpAny_bind (wpAny_holding ?_)
    refine wpAny_bind (wpAny_tryCatch ?_)
    unfold Builtin.Dict.pairItems
    refine wpAny_bind (wpAny_typeOf (T := "tuple") ⟨oa, ga, hca⟩ ?_)
    rw [if_pos (by decide)]
    refine wpAny_bind (wpAny_seqItems ga hda (wpAny_pure ?_))
    refine wpAny_holding (wpAny_dictSet_pairs hkey dm1 (fun h2 dm2 sb => ?_) (by omega))
    have h2d : ∀ b o, b ≠ d → h1.get? b = some o → h2.get? b = some o := fun b o hb e => (sb.2 b hb).trans e
    have st2 : T (i + 1) h2 := W.frame _ _ _ st1 fun b mb o e => h2d b o (fun z => hd (by rw [← z]; exact mb)) e
    have hl2 : (stored m p.1 p.2).length ≤ m.length + 1 := by
      unfold stored
      split
      · rw [List.length_map]; exact Nat.le_succ _
      · rw [List.length_append]; exact Nat.le_refl _
    refine wpAny_pure ⟨plainId_quiet ld_plain_loop _, ?_⟩
    refine ih (i + 1) _ (stored m p.1 p.2) 0 (by omega) lt st2 dm2 (by omega) (fun b o mb e => h2d b o (fun z => mb (by rw [z]; exact List.mem_cons_self)) (k1 b o (fun z => mb (List.mem_cons_of_mem _ z)) (kp b o mb e))) fun h3 t3 dm3 k3 => ?_
    refine fin h3 t3 ?_ k3
    have hi : i < ps.length := by omega
    have ep' : ps[i] = p := by rw [List.getElem?_eq_getElem hi] at ep; exact Option.some.inj ep
    rw [List.drop_eq_getElem_cons hi, List.foldl_cons, ep']
    exact dm3
theorem call_dict_seq {E : Value → Shared → Prop} {s : Shared} {x : Value} {Q : Value → Shared → Prop} (ps : List (κ × Value)) (hz : ps.length ≤ sizeLine) (T0 : String) (hT0 : (Value.type T0 != Value.type "dict") = true)
    (hty : ∀ o, ({ s with heap := s.heap.push o } : Shared).TypeIs x T0)
    (hk : ∀ (o : Obj) (Q' : Option Value → Shared → Prop) (E' : Value → Shared → Prop), (∀ h' tk, (∀ b ob, (s.heap.push o).get? b = some ob → h'.get? b = some ob) → Q' none { s with heap := h', toks := tk }) → wpAny (model prog w) A.in1.in1 (getAttr? x "keys") Q' E' { s with heap := s.heap.push o })
    (hi : ∀ (s2 : Shared) (Q' : Value → Shared → Prop) (E' : Value → Shared → Prop), (∀ b ob, s.heap.get? b = some ob → s2.heap.get? b = some ob) → (∃ o, s2.heap.get? s.heap.objs.size = some o) →
      (∀ I fps wrs n P T h3, Walks prog w A.in1.in1 I fps wrs n P T → T 0 h3 → ps.length = n → s.heap.objs.size ∉ fps → (∀ b ob, s2.heap.get? b = some ob → h3.get? b = some ob) → (∀ b ∈ wrs, s.heap.get? b = none) → (∀ i v, P i v → ∃ p, ps[i]? = some p ∧ pairAt knd s.heap (s.heap.objs.size :: wrs) v p) → Q' (.ref I) { s2 with heap := h3 }) →
      wpAny (model prog w) A.in1.in1 (pyIter x) Q' E' s2)
    (h : ∀ h' tk, h'.DictOf knd s.heap.objs.size (ps.foldl (fun m p => stored m p.1 p.2) []) → (∀ b o, s.heap.get? b = some o → h'.get? b = some o) → Q (.ref s.heap.objs.size) { s with heap := h', toks := tk }) :
    wpAny (model prog w) A (call (.type "dict") [x]) Q E s := by
  refine callType_codes (Q₁ := fun obj s₁ => obj = .ref s.heap.objs.size ∧ s₁ = { s with heap := s.heap.push { cls := .type "dict", data := .dict #[] } }) F.kt_called_dict (F.kt_typeCall_dict_1 _) F.entry_dict_init (kt_code_dict_new _ ⟨rfl, rfl⟩) ?_
  rintro obj s₁ ⟨rfl, rfl⟩
  have hnew : (s.heap.push { cls := .type "dict", data := .dict #[] }).DictOf knd s.heap.objs.size [] := Heap.DictOf.new s.heap
  refine ⟨hnew.typeIs, F.args_dict_init_2 _ _, ?_⟩
  unfold Builtin.«dict.__init__»
  refine wpAny_bind ?_
  unfold Builtin.Dict.selfAndRest
  refine wpAny_bind (wpAny_notOrdered_dict hnew.typeIs ?_)
  show wpAny (model prog w) _ (pure (s.heap.objs.size, [x])) _ _ _
  refine wpAny_pure ?_
  show wpAny (model prog w) _ (Builtin.Dict.updateFrom "dict.__init__" s.heap.objs.size x [] .none) _ _ _
  unfold Builtin.Dict.updateFrom
  refine wpAny_bind (wpAny_typeOf (hty _) ?_)
  rw [if_pos hT0]
  refine wpAny_bind (hk _ _ _ fun h1 t1 k1 => ?_)
  refine wpAny_bind (wpAny_rule (wpAny_bind ?_))
  have o1 : ∀ b ob, s.heap.get? b = some ob → h1.get? b = some ob := fun b ob e => k1 b ob (Heap.get?_push_of_some _ e)
  refine hi { s with heap := h1, toks := t1 } _ _ o1 ⟨_, k1 _ _ (Heap.get?_push_size _ rfl)⟩ (fun I fps wrs n P T h3 W st hn hd k3 hw hP => ?_)
  have dm3 : h3.DictOf knd s.heap.objs.size [] := by
    obtain ⟨o, es, ep, ho, r⟩ := hnew
    exact ⟨o, es, ep, k3 _ o (k1 _ o ho), r⟩
  refine wpAny_pure ⟨plainId_quiet ld_plain_loop _, dictOf_loop (A := A.in1) W hd s.heap ps hn hP .none n 0 _ [] 0 rfl (Nat.zero_le _) st dm3 (by rw [List.length_nil]; omega) (fun b o _ e => k3 b o (o1 b o e)) fun h4 t4 dm4 k4 => ?_⟩
  refine ⟨rfl, h h4 t4 (by simpa using dm4) fun b o e => k4 b o (fun m => ?_) e⟩
  rcases List.mem_cons.mp m with z | z
  · exact absurd (Heap.lt_size e) (by rw [z]; exact Nat.lt_irrefl _)
  · rw [hw b z] at e; cases e
end
section
variable {X : Cx}
theorem foldl_KV {κ : Type} [DecidableEq κ] : ∀ {ps : List (κ × V)} {qs : List (κ × Value)} {m : List (κ × V)} {r : List (κ × Value)}, KV ps qs → KV m r → KV (ps.foldl (fun m p => putK m p.1 p.2) m) (qs.foldl (fun m p => stored m p.1 p.2) r)
  | _, _, _, _, .nil, h => h
  | _, _, _, _, .cons (a := p) (b := q) e t, h => by
    rw [List.foldl_cons, List.foldl_cons]
    refine foldl_KV t ?_
    rw [← e.1]
    exact h.put p.1 e.2
def rDictOf (K : PySem.W.Frag) : List V → Hp → VK → Prop := fun xs H Q => ∃ (p : Addr) (ys : List V) (ps : List (Key × V)), xs = [.ref p] ∧ (SqL K H p ys ∨ SqT K H p ys) ∧ Paired (fun y (q : Key × V) => ∃ a, y = .ref a ∧ SqT K H a [kV q.1, q.2]) ys ps ∧
  ∀ l, H l = none → Q (.ref l) (upd H l (.dK (ps.foldl (fun m q => putK m q.1 q.2) [])))
theorem pairs_of {pins : List (Addr × Obj)} {σ : St} {H : Hp} {s : Shared} (I : Inv X pins σ H s) : ∀ {ys : List V} {ps : List (Key × V)} {its : List Value}, Paired (fun y (q : Key × V) => ∃ a, y = .ref a ∧ SqT X.K H a [kV q.1, q.2]) ys ps → Vals ys its →
    ∃ qs : List (Key × Value), KV ps qs ∧ ∀ (i : Nat) (v : Value), its[i]? = some v → ∃ q, qs[i]? = some q ∧ ∃ a key, v = .ref a ∧ IsTup s.heap a #[key, q.2] ∧ (mixKind X.prog X.w).is q.1 key = true
  | _, _, _, .nil, .nil => ⟨[], .nil, fun i v e => by simp at e⟩
  | _, _, _, .cons (b := q) ⟨a, ey, hr⟩ t, .cons (b := u) r rs => by
    obtain ⟨qs, h1, h2⟩ := pairs_of I t rs
    subst ey
    cases r
    obtain ⟨us, ru, pt, _⟩ := I.tuple hr
    obtain ⟨key, x, rfl, rk, rx⟩ := vals2 ru
    refine ⟨(q.1, x) :: qs, .cons ⟨rfl, rx⟩ h1, fun i v e => ?_⟩
    cases i with
    | zero =>
      have e' := Option.some.inj e
      subst e'
      exact ⟨_, rfl, a, key, rfl, pt, kV_is rk⟩
    | succ i =>
      obtain ⟨q', e1, e2⟩ := h2 i v (by simpa using e)
      exact ⟨q', by simpa using e1, e2⟩
theorem call_dictOf (hc : X.calm = true) : CallR X (.type "dict") (rDictOf X.K) := by
  intro pins s σ H xs us Q I r h
  obtain ⟨p, ys, ps, rfl, hsrc, hps, q⟩ := h
  obtain ⟨u, rfl, ru⟩ := vals1 r
  cases ru
  have hh : X.A.handled = none := I.ok.hd hc
  have big := I.big
  have fin : ∀ (its : List Value) (qs : List (Key × Value)), KV ps qs → ys.length ≤ sizeLine → ∀ h' tk, h'.DictOf (mixKind X.prog X.w) s.heap.objs.size (qs.foldl (fun m p => stored m p.1 p.2) []) → (∀ b o, s.heap.get? b = some o → h'.get? b = some o) →
      EP X pins σ Q (.ref s.heap.objs.size) { s with heap := h', toks := tk } := by
    intro its qs hkv hz h' tk dm kp
    have rel := foldl_KV (m := []) (r := []) hkv .nil
    have lenF : ∀ (l : List (Key × V)) (m : List (Key × V)), (l.foldl (fun m q => putK m q.1 q.2) m).length ≤ m.length + l.length := by
      intro l
      induction l with
      | nil => intro m; exact Nat.le_refl _
      | cons a l ih =>
        intro m
        rw [List.foldl_cons]
        have h1 := ih (putK m a.1 a.2)
        have h2 := length_putK m a.1 a.2
        rw [List.length_cons]
        omega
    have hl : ps.length = ys.length := (Paired.length hps).symm
    refine ⟨.ref s.heap.objs.size, _, I.laid (a := s.heap.objs.size) (o := .dK _) (t' := tk) kp (Nat.le_refl _) (dk_new ?_ (beq_eq_false_iff_ne.mpr (Ne.symm (Nat.ne_of_lt big))) rel dm), rfl, q _ (I.hok.fresh (Nat.le_refl _))⟩
    have := lenF ps []
    rw [List.length_nil] at this
    omega
  have lenQ : ∀ {qs : List (Key × Value)}, KV ps qs → qs.length = ys.length := fun h => by rw [← h.length]; exact (Paired.length hps).symm
  have lts : ∀ {s2 : Shared}, (∃ o, s2.heap.get? s.heap.objs.size = some o) → s.heap.objs.size < s2.heap.objs.size := fun ⟨_, e⟩ => Heap.lt_size e
  rcases hsrc with hq | hq
  · obtain ⟨its, rv, pl, hz⟩ := I.list hq
    obtain ⟨qs, hkv, hat⟩ := pairs_of I hps rv
    obtain ⟨o, n, ho, hoc, hod, hdat⟩ := pl
    have hp : p < s.heap.objs.size := Heap.lt_size ho
    refine call_dict_seq (knd := mixKind X.prog X.w) qs (by rw [lenQ hkv]; exact hz) "list" (by decide) (fun ob => ⟨o, Heap.get?_push_of_some _ ho, hoc⟩) (fun ob Q' E' k => ?_) (fun s2 Q' E' o2 hS k => ?_) (fun h' tk dm kp => fin its qs hkv hz h' tk dm kp)
    · obtain ⟨c0, d0, dt0, sl0⟩ := o
      dsimp only at hoc hod hdat
      subst hoc hod hdat
      exact ld_keys_list (A := X.A.in1.in1) (Heap.get?_push_of_some _ ho) hh fun h1 t1 kp => k h1 t1 kp
    · have hl2 : s2.heap.IsList p its.toArray := ⟨o, o2 p o ho, hoc, n, hdat⟩
      refine wpAny_pyIter_list hl2 (k s2.heap.objs.size [s2.heap.objs.size, p] [s2.heap.objs.size] _ _ _ _ (Walks.list (A := X.A.in1.in1) hh s2.heap.objs.size p (Nat.ne_of_lt (Nat.lt_trans hp (lts hS))) its.toArray) ⟨⟨_, Heap.get?_push_size _ rfl, rfl, rfl⟩, hl2.push _⟩ (by rw [lenQ hkv, List.size_toArray, ← rv.length]) ?_ (fun b ob e => Heap.get?_push_of_some _ e) ?_ fun i v e => ?_)
      · intro m
        rcases List.mem_cons.mp m with z | z
        · exact absurd z (Nat.ne_of_lt (lts hS))
        · exact absurd (List.mem_singleton.mp z) (Nat.ne_of_gt hp)
      · intro b m
        rw [List.mem_singleton.mp m]
        exact Heap.get?_none_of_le (Nat.le_of_lt (lts hS))
      · obtain ⟨q', e1, a, key, e2, e3, e4⟩ := hat i v (by simpa using e)
        refine ⟨q', e1, a, key, e2, fun m => ?_, e3, e4⟩
        obtain ⟨oa, ha, _⟩ := e3
        rcases List.mem_cons.mp m with z | z
        · exact absurd (Heap.lt_size ha) (by rw [z]; exact Nat.lt_irrefl _)
        · exact absurd (Heap.lt_size ha) (by rw [List.mem_singleton.mp z]; exact Nat.not_lt.mpr (Nat.le_of_lt (lts hS)))
  · obtain ⟨its, rv, ⟨o, ho, hoc, hod, n, hdat⟩, hz⟩ := I.tupleN hq
    obtain ⟨qs, hkv, hat⟩ := pairs_of I hps rv
    have hp : p < s.heap.objs.size := Heap.lt_size ho
    refine call_dict_seq (knd := mixKind X.prog X.w) qs (by rw [lenQ hkv]; exact hz) "tuple" (by decide) (fun ob => ⟨o, Heap.get?_push_of_some _ ho, hoc⟩) (fun ob Q' E' k => ?_) (fun s2 Q' E' o2 hS k => ?_) (fun h' tk dm kp => fin its qs hkv hz h' tk dm kp)
    · obtain ⟨c0, d0, dt0, sl0⟩ := o
      dsimp only at hoc hod hdat
      subst hoc hod hdat
      exact ld_keys_tuple (A := X.A.in1.in1) (Heap.get?_push_of_some _ ho) hh fun h1 t1 kp => k h1 t1 kp
    · have hl2 : s2.heap.IsTuple p its.toArray := ⟨o, o2 p o ho, hoc, n, hdat⟩
      refine wpAny_pyIter_tuple hl2 (k s2.heap.objs.size [s2.heap.objs.size, p] [s2.heap.objs.size] _ _ _ _ (Walks.tuple (A := X.A.in1.in1) hh s2.heap.objs.size p (Nat.ne_of_lt (Nat.lt_trans hp (lts hS))) its.toArray) ⟨⟨_, Heap.get?_push_size _ rfl, rfl, rfl⟩, hl2.push _⟩ (by rw [lenQ hkv, List.size_toArray, ← rv.length]) ?_ (fun b ob e => Heap.get?_push_of_some _ e) ?_ fun i v e => ?_)
      · intro m
        rcases List.mem_cons.mp m with z | z
        · exact absurd z (Nat.ne_of_lt (lts hS))
        · exact absurd (List.mem_singleton.mp z) (Nat.ne_of_gt hp)
      · intro b m
        rw [List.mem_singleton.mp m]
        exact Heap.get?_none_of_le (Nat.le_of_lt (lts hS))
      · obtain ⟨q', e1, a, key, e2, e3, e4⟩ := hat i v (by simpa using e)
        refine ⟨q', e1, a, key, e2, fun m => ?_, e3, e4⟩
        obtain ⟨oa, ha, _⟩ := e3
        rcases List.mem_cons.mp m with z | z
        · exact absurd (Heap.lt_size ha) (by rw [z]; exact Nat.lt_irrefl _)
        · exact absurd (Heap.lt_size ha) (by rw [List.mem_singleton.mp z]; exact Nat.not_lt.mpr (Nat.le_of_lt (lts hS)))
end
end L2
namespace L2.Ev
open PySem PySem.Spec PyProof.Rows
inductive D where
  | non | bl (b : Bool) | int (i : Int) | str (x : Str) | tup (ds : List D) | lst (ds : List D) | fls (ds : List D) | dic (kvs : List (Key × D)) | dit (kvs : List (List Key × D)) | ins (C : Addr) (fs : List (Str × D))
def Frz (K : PySem.W.Frag) (H : Hp) (a : Addr) (xs : List V) : Prop := (∃ o, H a = some (.frz o (.lst xs))) ∨
  ∃ (o : Obj) (its : Array Value) (n : Nat), K.lookup a = some o ∧ o.cls = .type "list" ∧ o.dict = none ∧ o.data = .seq its n ∧ its.size ≤ sizeLine ∧ Vals xs its.toList
theorem Frz.sq {K : PySem.W.Frag} {H : Hp} {a : Addr} {xs : List V} (h : Frz K H a xs) : SqL K H a xs := h.elim (fun z => .inl (.inr z)) .inr
mutual
inductive Rep (K : PySem.W.Frag) (H : Hp) : D → V → List Addr → Prop
  | non : Rep K H .non .non []
  | bl (b : Bool) : Rep K H (.bl b) (.bl b) []
  | int (i : Int) : Rep K H (.int i) (.int i) []
  | str (x : Str) : Rep K H (.str x) (.str x) []
  | tup {a : Addr} {xs : List V} {ds : List D} {fp : List Addr} : SqT K H a xs → Reps K H ds xs fp → Rep K H (.tup ds) (.ref a) fp
  | lst {a : Addr} {xs : List V} {ds : List D} {fp : List Addr} : H a = some (.lst xs) → Reps K H ds xs fp → Rep K H (.lst ds) (.ref a) (a :: fp)
  | lsf {a : Addr} {xs : List V} {ds : List D} {fp : List Addr} : Frz K H a xs → Reps K H ds xs fp → Rep K H (.fls ds) (.ref a) fp
  | dic {a : Addr} {kvs : List (Key × V)} {es : List (Key × D)} {fp : List Addr} : H a = some (.dK kvs) → es.map (·.1) = kvs.map (·.1) → Reps K H (es.map (·.2)) (kvs.map (·.2)) fp → Rep K H (.dic es) (.ref a) (a :: fp)
  | dit {a : Addr} {kvs : List (List Key × V)} {es : List (List Key × D)} {fp : List Addr} : H a = some (.dT kvs) → es.map (·.1) = kvs.map (·.1) → Reps K H (es.map (·.2)) (kvs.map (·.2)) fp → Rep K H (.dit es) (.ref a) (a :: fp)
  | ins {a C dx : Addr} {fs : List (Str × V)} {es : List (Str × D)} {fp : List Addr} : H a = some (.ins C dx fs) → H dx = some (.own a) → es.map (·.1) = fs.map (·.1) → Reps K H (es.map (·.2)) (fs.map (·.2)) fp → Rep K H (.ins C es) (.ref a) (a :: dx :: fp)
inductive Reps (K : PySem.W.Frag) (H : Hp) : List D → List V → List Addr → Prop
  | nil : Reps K H [] [] []
  | cons {d : D} {v : V} {ds : List D} {vs : List V} {f1 f2 : List Addr} : Rep K H d v f1 → Reps K H ds vs f2 → Reps K H (d :: ds) (v :: vs) (f1 ++ f2)
end
def Imm (H H' : Hp) : Prop := (∀ a xs, H a = some (.tup xs) → H' a = some (.tup xs)) ∧ ∀ a o u, H a = some (.frz o u) → H' a = some (.frz o u)
theorem Imm.sqt {K : PySem.W.Frag} {H H' : Hp} {a : Addr} {xs : List V} (i : Imm H H') (h : SqT K H a xs) : SqT K H' a xs := by
  rcases h with (h | ⟨o, h⟩) | h
  · exact .inl (.inl (i.1 _ _ h))
  · exact .inl (.inr ⟨o, i.2 _ _ _ h⟩)
  · exact .inr h
theorem Imm.frz {K : PySem.W.Frag} {H H' : Hp} {a : Addr} {xs : List V} (i : Imm H H') (h : Frz K H a xs) : Frz K H' a xs := by
  rcases h with ⟨o, h⟩ | h
  · exact .inl ⟨o, i.2 _ _ _ h⟩
  · exact .inr h
theorem Imm.of {H H' : Hp} (h : Same H H') : Imm H H' := ⟨fun _ _ e => h _ _ e, fun _ _ _ e => h _ _ e⟩
theorem Imm.refl (H : Hp) : Imm H H := ⟨fun _ _ e => e, fun _ _ _ e => e⟩
theorem Imm.trans {H H1 H2 : Hp} (a : Imm H H1) (b : Imm H1 H2) : Imm H H2 := ⟨fun _ _ e => b.1 _ _ (a.1 _ _ e), fun _ _ _ e => b.2 _ _ _ (a.2 _ _ _ e)⟩
def MutO : HO → Bool
  | .lst _ | .dK _ | .dT _ | .ins _ _ _ | .own _ => true
  | _ => false
theorem Imm.upd {H : Hp} {p : Addr} {o o' : HO} (h : H p = some o) (m : MutO o = true) : Imm H (upd H p o') := by
  refine ⟨fun a xs e => ?_, fun a q u e => ?_⟩
  · rw [upd_ne]
    · exact e
    · rintro rfl; rw [h] at e; cases e; cases m
  · rw [upd_ne]
    · exact e
    · rintro rfl; rw [h] at e; cases e; cases m
section
variable {K : PySem.W.Frag} {H H' : Hp}
mutual
theorem Rep.frame : ∀ {d : D} {v : V} {fp : List Addr}, Rep K H d v fp → (∀ a ∈ fp, H' a = H a) → Imm H H' → Rep K H' d v fp
  | _, _, _, .non, _, _ => .non
  | _, _, _, .bl b, _, _ => .bl b
  | _, _, _, .int i, _, _ => .int i
  | _, _, _, .str x, _, _ => .str x
  | _, _, _, .tup h r, k, i => .tup (i.sqt h) (Reps.frame r k i)
  | _, _, _, .lst h r, k, i => .lst ((k _ List.mem_cons_self).trans h) (Reps.frame r (fun a m => k a (List.mem_cons_of_mem _ m)) i)
  | _, _, _, .lsf h r, k, i => .lsf (i.frz h) (Reps.frame r k i)
  | _, _, _, .dic h e r, k, i => .dic ((k _ List.mem_cons_self).trans h) e (Reps.frame r (fun a m => k a (List.mem_cons_of_mem _ m)) i)
  | _, _, _, .dit h e r, k, i => .dit ((k _ List.mem_cons_self).trans h) e (Reps.frame r (fun a m => k a (List.mem_cons_of_mem _ m)) i)
  | _, _, _, .ins h h2 e r, k, i => .ins ((k _ List.mem_cons_self).trans h) ((k _ (List.mem_cons_of_mem _ List.mem_cons_self)).trans h2) e (Reps.frame r (fun a m => k a (List.mem_cons_of_mem _ (List.mem_cons_of_mem _ m))) i)
theorem Reps.frame : ∀ {ds : List D} {vs : List V} {fp : List Addr}, Reps K H ds vs fp → (∀ a ∈ fp, H' a = H a) → Imm H H' → Reps K H' ds vs fp
  | _, _, _, .nil, _, _ => .nil
  | _, _, _, .cons h t, k, i => .cons (Rep.frame h (fun a m => k a (List.mem_append_left _ m)) i) (Reps.frame t (fun a m => k a (List.mem_append_right _ m)) i)
end
mutual
theorem Rep.dom : ∀ {d : D} {v : V} {fp : List Addr}, Rep K H d v fp → ∀ a ∈ fp, ∃ o, H a = some o ∧ MutO o = true
  | _, _, _, .non, _, m => nomatch m
  | _, _, _, .bl b, _, m => nomatch m
  | _, _, _, .int i, _, m => nomatch m
  | _, _, _, .str x, _, m => nomatch m
  | _, _, _, .tup h r, a, m => Reps.dom r a m
  | _, _, _, .lst h r, a, m => (List.mem_cons.mp m).elim (fun e => ⟨_, e ▸ h, rfl⟩) fun m => Reps.dom r a m
  | _, _, _, .lsf h r, a, m => Reps.dom r a m
  | _, _, _, .dic h e r, a, m => (List.mem_cons.mp m).elim (fun e => ⟨_, e ▸ h, rfl⟩) fun m => Reps.dom r a m
  | _, _, _, .dit h e r, a, m => (List.mem_cons.mp m).elim (fun e => ⟨_, e ▸ h, rfl⟩) fun m => Reps.dom r a m
  | _, _, _, .ins h h2 e r, a, m => (List.mem_cons.mp m).elim (fun e => ⟨_, e ▸ h, rfl⟩) fun m => (List.mem_cons.mp m).elim (fun e => ⟨_, e ▸ h2, rfl⟩) fun m => Reps.dom r a m
theorem Reps.dom : ∀ {ds : List D} {vs : List V} {fp : List Addr}, Reps K H ds vs fp → ∀ a ∈ fp, ∃ o, H a = some o ∧ MutO o = true
  | _, _, _, .nil, _, m => nomatch m
  | _, _, _, .cons h t, a, m => (List.mem_append.mp m).elim (Rep.dom h a) (Reps.dom t a)
end
theorem Rep.same {d : D} {v : V} {fp : List Addr} (h : Rep K H d v fp) (s : Same H H') : Rep K H' d v fp :=
  h.frame (fun a m => let ⟨o, e, _⟩ := h.dom a m; (s a o e).trans e.symm) (.of s)
theorem Reps.same {ds : List D} {vs : List V} {fp : List Addr} (h : Reps K H ds vs fp) (s : Same H H') : Reps K H' ds vs fp :=
  h.frame (fun a m => let ⟨o, e, _⟩ := h.dom a m; (s a o e).trans e.symm) (.of s)
theorem Reps.length : ∀ {ds : List D} {vs : List V} {fp : List Addr}, Reps K H ds vs fp → ds.length = vs.length
  | _, _, _, .nil => rfl
  | _, _, _, .cons _ t => by rw [List.length_cons, List.length_cons, Reps.length t]
theorem Reps.get : ∀ {ds : List D} {vs : List V} {fp : List Addr} {i : Nat} {d : D}, Reps K H ds vs fp → ds[i]? = some d → ∃ v f, vs[i]? = some v ∧ Rep K H d v f ∧ ∀ a ∈ f, a ∈ fp
  | _, _, _, _, _, .nil, e => by simp at e
  | _, _, _, 0, _, .cons h t, e => by
    have e' := Option.some.inj e
    subst e'
    exact ⟨_, _, rfl, h, fun a m => List.mem_append_left _ m⟩
  | _, _, _, i + 1, d, .cons h t, e => by
    obtain ⟨v, f, e1, r, s⟩ := Reps.get (i := i) (d := d) t (by simpa using e)
    exact ⟨v, f, by simpa using e1, r, fun a m => List.mem_append_right _ (s a m)⟩
theorem Reps.append : ∀ {ds es : List D} {vs ws : List V} {f g : List Addr}, Reps K H ds vs f → Reps K H es ws g → Reps K H (ds ++ es) (vs ++ ws) (f ++ g)
  | _, _, _, _, _, _, .nil, s => s
  | _, _, _, _, _, g, .cons h t, s => by
    rw [List.append_assoc]
    exact .cons h (Reps.append t s)
end
mutual
def imm : D → Bool
  | .lst _ | .fls _ | .dic _ | .dit _ | .ins _ _ => false
  | .tup ds => immAll ds
  | _ => true
def immAll : List D → Bool
  | [] => true
  | d :: ds => imm d && immAll ds
end
section
variable {K : PySem.W.Frag} {H H' : Hp}
mutual
theorem Rep.imm : ∀ {d : D} {v : V} {fp : List Addr}, Rep K H d v fp → imm d = true → fp = []
  | _, _, _, .non, _ => rfl
  | _, _, _, .bl _, _ => rfl
  | _, _, _, .int _, _ => rfl
  | _, _, _, .str _, _ => rfl
  | _, _, _, .tup _ r, e => Reps.imm r (by unfold L2.Ev.imm at e; exact e)
  | _, _, _, .lst _ _, e => by unfold L2.Ev.imm at e; cases e
  | _, _, _, .lsf _ _, e => by unfold L2.Ev.imm at e; cases e
  | _, _, _, .dic _ _ _, e => by unfold L2.Ev.imm at e; cases e
  | _, _, _, .dit _ _ _, e => by unfold L2.Ev.imm at e; cases e
  | _, _, _, .ins _ _ _ _, e => by unfold L2.Ev.imm at e; cases e
theorem Reps.imm : ∀ {ds : List D} {vs : List V} {fp : List Addr}, Reps K H ds vs fp → immAll ds = true → fp = []
  | _, _, _, .nil, _ => rfl
  | _, _, _, .cons h t, e => by
    unfold immAll at e
    obtain ⟨a, b⟩ := (Bool.and_eq_true _ _).mp e
    rw [Rep.imm h a, Reps.imm t b]
    rfl
end
end
inductive Tag where
  | own | lk | sh (o : List Nat)
abbrev Slot := Option (D × Tag)
abbrev Rho := List Slot
def InZ (z : Addr → Option Nat) (i : Nat) : Tag → List Addr → Prop
  | .sh o, fp => ∀ a ∈ fp, ∀ j, z a = some j → j ∈ o
  | _, fp => fp.Nodup ∧ ∀ a ∈ fp, z a = some i
def NoOwn (ρ : Rho) (j : Nat) : Prop := ∀ d, ρ[j]? ≠ some (some (d, .own))
structure Held where
  d : D
  v : V
  fp : List Addr
  z0 : Addr → Option Nat
structure Ok (K : PySem.W.Frag) (H0 : Hp) (S : List Addr) (z : Addr → Option Nat) (held : List Held) (ρ : Rho) (σ : St) (H : Hp) : Prop where
  sl : ∀ i d t, ρ[i]? = some (some (d, t)) → ∃ v fp, σ[i]? = some (some v) ∧ Rep K H d v fp ∧ InZ z i t fp
  hl : ∀ p ∈ held, Rep K H p.d p.v p.fp ∧ ∀ a ∈ p.fp, ∀ j, z a = some j → p.z0 a = some j ∧ NoOwn ρ j
  zd : ∀ a j, z a = some j → (∃ o, H a = some o) ∧ (H0 a = none ∨ a ∈ S)
  en : ∀ a o, H0 a = some o → a ∉ S → H a = some o
  ln : ρ.length = σ.length
theorem Ok.same {K : PySem.W.Frag} {H0 : Hp} {S : List Addr} {z : Addr → Option Nat} {held : List Held} {ρ : Rho} {σ : St} {H H' : Hp} (h : Ok K H0 S z held ρ σ H) (s : Same H H') : Ok K H0 S z held ρ σ H' :=
  ⟨fun i d t e => let ⟨v, fp, a, b, c⟩ := h.sl i d t e; ⟨v, fp, a, b.same s, c⟩, fun p m => let ⟨a, b⟩ := h.hl p m; ⟨a.same s, b⟩,
    fun a j e => let ⟨⟨o, x⟩, y⟩ := h.zd a j e; ⟨⟨o, s _ _ x⟩, y⟩, fun a o e n => s _ _ (h.en a o e n), h.ln⟩
def TagOk (z : Addr → Option Nat) (H : Hp) : Tag → List Addr → Prop
  | .sh o, fp => ∀ a ∈ fp, ∀ j, z a = some j → j ∈ o
  | _, fp => fp.Nodup ∧ ∀ a ∈ fp, H a = none
theorem TagOk.nil {z : Addr → Option Nat} {H : Hp} {t : Tag} : TagOk z H t [] := by
  cases t with
  | sh o => intro a m; cases m
  | own => exact ⟨List.nodup_nil, fun a m => nomatch m⟩
  | lk => exact ⟨List.nodup_nil, fun a m => nomatch m⟩
abbrev EF := Rho → Option (D × Tag)
def FP (X : Cx) (e : Expr) (f : EF) : Prop := ∃ t, PE X e t ∧ ∀ (H0 : Hp) (S : List Addr) (z : Addr → Option Nat) (held : List Held) (ρ : Rho) (σ : St) (H : Hp) (Q : VK) (d : D) (tg : Tag),
  Ok X.K H0 S z held ρ σ H → f ρ = some (d, tg) → (∀ H' v fp, Same H H' → Rep X.K H' d v fp → TagOk z H tg fp → Q v H') → t σ H Q
abbrev AF := Rho → Option (List (D × Tag))
abbrev TF := Rho → Option Bool
def FT (X : Cx) (e : Expr) (f : TF) : Prop := ∃ t, PT X e t ∧ ∀ (H0 : Hp) (S : List Addr) (z : Addr → Option Nat) (held : List Held) (ρ : Rho) (σ : St) (H : Hp) (Q : Bool → Hp → Prop) (b : Bool),
  Ok X.K H0 S z held ρ σ H → f ρ = some b → (∀ H', Same H H' → Q b H') → t σ H Q
def tagOf (i : Nat) : Tag → Tag
  | .sh o => .sh o
  | _ => .sh [i]
def eVar (i : Nat) : EF := fun ρ => match ρ[i]? with
  | some (some (d, t)) => some (d, tagOf i t)
  | _ => none
section
variable {X : Cx}
theorem fp_var (i : Nat) {x : Str} {pos : Pos} (hN : X.N[i]? = some x := by rfl) (hv : Vis X.env.scope x := by first | exact Or.inl rfl | exact Or.inr (Or.inl rfl) | exact Or.inr (Or.inr rfl)) (hd : (x == ("__debug__" : Str)) = false := by decide)
    (hcd : (x == ("__classdict__" : Str)) = false := by decide) : FP X (.Name x pos) (eVar i) := by
  refine ⟨_, pe_var (i := i) hN hv hd hcd, fun H0 S z held ρ σ H Q d tg ok e q => ?_⟩
  unfold eVar at e
  cases h : ρ[i]? with
  | none => rw [h] at e; cases e
  | some s =>
    cases s with
    | none => rw [h] at e; cases e
    | some p =>
      obtain ⟨d', t⟩ := p
      rw [h] at e
      have e' := Option.some.inj e
      have e1 : d' = d := congrArg Prod.fst e'
      have e2 : tagOf i t = tg := congrArg Prod.snd e'
      subst e1 e2
      obtain ⟨v, fp, hs, r, zz⟩ := ok.sl i d' t h
      refine ⟨v, hs, q H v fp (Same.refl H) r ?_⟩
      cases t with
      | sh o => exact zz
      | own => intro a m j ej; rw [zz.2 a m] at ej; cases ej; exact List.mem_cons_self
      | lk => intro a m j ej; rw [zz.2 a m] at ej; cases ej; exact List.mem_cons_self
def eC (d : D) : EF := fun _ => some (d, .own)
theorem fp_int {i j pos} : FP X (.Constant (.int i) j pos) (eC (.int i)) := ⟨_, pe_int, fun _ _ _ _ _ _ H _ _ _ _ e q => by cases e; exact q H _ _ (Same.refl H) (.int i) .nil⟩
theorem fp_bl {b j pos} : FP X (.Constant (.bool b) j pos) (eC (.bl b)) := ⟨_, pe_bl, fun _ _ _ _ _ _ H _ _ _ _ e q => by cases e; exact q H _ _ (Same.refl H) (.bl b) .nil⟩
theorem fp_non {j pos} : FP X (.Constant .none j pos) (eC .non) := ⟨_, pe_non, fun _ _ _ _ _ _ H _ _ _ _ e q => by cases e; exact q H _ _ (Same.refl H) .non .nil⟩
theorem fp_str {x j pos} : FP X (.Constant (.str x) j pos) (eC (.str x)) := ⟨_, pe_str, fun _ _ _ _ _ _ H _ _ _ _ e q => by cases e; exact q H _ _ (Same.refl H) (.str x) .nil⟩
def e2 (op : D → D → Option D) (fa fb : EF) : EF := fun ρ => match fa ρ, fb ρ with
  | some (d1, _), some (d2, _) => (op d1 d2).map fun d => (d, .own)
  | _, _ => none
theorem e2_of {op : D → D → Option D} {fa fb : EF} {ρ : Rho} {d : D} {tg : Tag} (e : e2 op fa fb ρ = some (d, tg)) : ∃ d1 t1 d2 t2, fa ρ = some (d1, t1) ∧ fb ρ = some (d2, t2) ∧ op d1 d2 = some d ∧ tg = .own := by
  unfold e2 at e
  cases h1 : fa ρ with
  | none => rw [h1] at e; cases e
  | some p =>
    obtain ⟨d1, t1⟩ := p
    cases h2 : fb ρ with
    | none => rw [h1, h2] at e; cases e
    | some p =>
      obtain ⟨d2, t2⟩ := p
      rw [h1, h2] at e
      dsimp only at e
      cases h3 : op d1 d2 with
      | none => rw [h3] at e; cases e
      | some d3 =>
        rw [h3] at e
        cases e
        exact ⟨d1, t1, d2, t2, rfl, rfl, h3, rfl⟩
def Does2 (K : PySem.W.Frag) (r : R2) (op : D → D → Option D) : Prop := ∀ (H : Hp) (x y : V) (d1 d2 : D) (f1 f2 : List Addr) (d : D) (Q : VK), Rep K H d1 x f1 → Rep K H d2 y f2 → op d1 d2 = some d →
  (∀ H' v, Same H H' → Rep K H' d v [] → Q v H') → r x y H Q
theorem fp_2 {a b e : Expr} {fa fb : EF} {r : R2} {op : D → D → Option D} (dd : Does2 X.K r op) (ha : FP X a fa) (hb : FP X b fb) (he : ∀ ta tb, PE X a ta → PE X b tb → PE X e (tOp r ta tb)) : FP X e (e2 op fa fb) := by
  obtain ⟨ta, pa, sa⟩ := ha
  obtain ⟨tb, pb, sb⟩ := hb
  refine ⟨_, he ta tb pa pb, fun H0 S z held ρ σ H Q d tg ok e q => ?_⟩
  obtain ⟨d1, t1, d2, t2, e1, e2', e3, rfl⟩ := e2_of e
  refine sa H0 S z held ρ σ H _ d1 t1 ok e1 fun H1 x f1 s1 r1 _ => ?_
  refine sb H0 S z held ρ σ H1 _ d2 t2 (ok.same s1) e2' fun H2 y f2 s2 r2 _ => ?_
  exact dd H2 x y d1 d2 f1 f2 d Q (r1.same s2) r2 e3 fun H3 v s3 r3 => q H3 v [] ((s1.trans s2).trans s3) r3 .nil
end
end L2.Ev
namespace L2.Ev
open PySem PySem.Spec PyProof.Rows
def joinT : Tag → Tag → Tag
  | .sh o, .sh p => .sh (o ++ p)
  | .sh o, _ => .sh o
  | _, t => t
def joinA : List (D × Tag) → Tag
  | [] => .own
  | p :: r => joinT p.2 (joinA r)
def FA (X : Cx) (es : List Expr) (f : AF) : Prop := ∃ t, PA X es t ∧ (∀ ρ ps, f ρ = some ps → ps.length = es.length) ∧ ∀ (H0 : Hp) (S : List Addr) (z : Addr → Option Nat) (held : List Held) (ρ : Rho) (σ : St) (H : Hp) (Q : List V → Hp → Prop) (ps : List (D × Tag)),
  Ok X.K H0 S z held ρ σ H → f ρ = some ps → (∀ H' vs fp, Same H H' → Reps X.K H' (ps.map (·.1)) vs fp → TagOk z H (joinA ps) fp → Q vs H') → t σ H Q
def aNil : AF := fun _ => some []
def aCons (f : EF) (g : AF) : AF := fun ρ => match f ρ, g ρ with
  | some p, some ps => some (p :: ps)
  | _, _ => none
theorem aCons_of {f : EF} {g : AF} {ρ : Rho} {ps : List (D × Tag)} (e : aCons f g ρ = some ps) : ∃ d t r, f ρ = some (d, t) ∧ g ρ = some r ∧ ps = (d, t) :: r := by
  unfold aCons at e
  cases h1 : f ρ with
  | none => rw [h1] at e; cases e
  | some p =>
    cases h2 : g ρ with
    | none => rw [h1, h2] at e; cases e
    | some r =>
      rw [h1, h2] at e
      cases e
      exact ⟨p.1, p.2, r, rfl, rfl, rfl⟩
theorem TagOk.join {K : PySem.W.Frag} {H0 : Hp} {S : List Addr} {z : Addr → Option Nat} {held : List Held} {ρ : Rho} {σ : St} {H H1 : Hp} {t1 t2 : Tag} {f1 f2 : List Addr} (ok : Ok K H0 S z held ρ σ H) (s : Same H H1)
    (h1 : TagOk z H t1 f1) (d1 : ∀ a ∈ f1, ∃ o, H1 a = some o ∧ MutO o = true) (h2 : TagOk z H1 t2 f2) : TagOk z H (joinT t1 t2) (f1 ++ f2) := by
  have nz : ∀ {a : Addr} {j : Nat}, H a = none → z a = some j → False := fun {a j} e q => by
    obtain ⟨⟨o, w⟩, _⟩ := ok.zd a j q
    rw [e] at w; cases w
  have both : ∀ {t1 t2 : Tag}, (f1.Nodup ∧ ∀ a ∈ f1, H a = none) → (f2.Nodup ∧ ∀ a ∈ f2, H1 a = none) → (f1 ++ f2).Nodup ∧ ∀ a ∈ f1 ++ f2, H a = none := fun p q => by
    refine ⟨List.nodup_append.mpr ⟨p.1, q.1, fun a m b m' e => ?_⟩, fun a m => ?_⟩
    · subst e
      obtain ⟨o, w, _⟩ := d1 a m
      rw [q.2 a m'] at w; cases w
    · rcases List.mem_append.mp m with m | m
      · exact p.2 a m
      · exact s.free (q.2 a m)
  cases t1 with
  | sh o =>
    have h1' : ∀ a ∈ f1, ∀ j, z a = some j → j ∈ o := h1
    cases t2 with
    | sh p =>
      intro a m j q
      rcases List.mem_append.mp m with m | m
      · exact List.mem_append_left _ (h1' a m j q)
      · exact List.mem_append_right _ (h2 a m j q)
    | own =>
      intro a m j q
      rcases List.mem_append.mp m with m | m
      · exact h1' a m j q
      · exact (nz (s.free (h2.2 a m)) q).elim
    | lk =>
      intro a m j q
      rcases List.mem_append.mp m with m | m
      · exact h1' a m j q
      · exact (nz (s.free (h2.2 a m)) q).elim
  | own =>
    cases t2 with
    | sh p =>
      intro a m j q
      rcases List.mem_append.mp m with m | m
      · exact (nz (h1.2 a m) q).elim
      · exact h2 a m j q
    | own => exact both (t1 := .own) (t2 := .own) h1 h2
    | lk => exact both (t1 := .own) (t2 := .own) h1 h2
  | lk =>
    cases t2 with
    | sh p =>
      intro a m j q
      rcases List.mem_append.mp m with m | m
      · exact (nz (h1.2 a m) q).elim
      · exact h2 a m j q
    | own => exact both (t1 := .own) (t2 := .own) h1 h2
    | lk => exact both (t1 := .own) (t2 := .own) h1 h2
section
variable {X : Cx} {pos : Pos}
theorem fa_nil : FA X [] aNil := ⟨_, pa_nil, fun _ _ e => by cases e; rfl, fun _ _ _ _ _ _ H _ _ _ e q => by cases e; exact q H _ _ (Same.refl H) .nil .nil⟩
theorem fa_cons {e : Expr} {es : List Expr} {f : EF} {g : AF} (ha : FP X e f) (hr : FA X es g) (hs : starEach (e :: es) X.env = (false, eval e X.env) :: starEach es X.env := by rfl) : FA X (e :: es) (aCons f g) := by
  obtain ⟨t, p, q⟩ := ha
  obtain ⟨t', p', l', q'⟩ := hr
  refine ⟨_, pa_cons p p' hs, fun ρ ps e => by obtain ⟨d, tg, r, e1, e2, rfl⟩ := aCons_of e; rw [List.length_cons, List.length_cons, l' ρ r e2], fun H0 S z held ρ σ H Q ps ok e k => ?_⟩
  obtain ⟨d, tg, r, e1, e2, rfl⟩ := aCons_of e
  refine q H0 S z held ρ σ H _ d tg ok e1 fun H1 v f1 s1 r1 g1 => ?_
  refine q' H0 S z held ρ σ H1 _ r (ok.same s1) e2 fun H2 vs f2 s2 r2 g2 => ?_
  exact k H2 (v :: vs) (f1 ++ f2) (s1.trans s2) (.cons (r1.same s2) r2) (TagOk.join ok s1 g1 r1.dom g2)
def eTup (g : AF) : EF := fun ρ => (g ρ).map fun ps => (.tup (ps.map (·.1)), joinA ps)
theorem fp_tup {es : List Expr} {g : AF} {x1} (h : FA X es g) (hl : es.length ≤ 1000 := by decide) : FP X (.Tuple es x1 pos) (eTup g) := by
  obtain ⟨t, p, hg, q⟩ := h
  refine ⟨_, pe_tup p, fun H0 S z held ρ σ H Q d tg ok e k => ?_⟩
  unfold eTup at e
  cases h1 : g ρ with
  | none => rw [h1] at e; cases e
  | some ps =>
    rw [h1] at e
    cases e
    refine q H0 S z held ρ σ H _ ps ok h1 fun H1 vs fp s1 r1 g1 => ⟨?_, fun a ha => ?_⟩
    · rw [← r1.length, List.length_map, hg ρ ps h1]
      exact Nat.le_of_lt (small1000 hl)
    · have s2 : Same H1 (upd H1 a (.tup vs)) := fun b o e => by rw [upd_ne (ne_of_none e ha)]; exact e
      exact k _ _ fp (s1.trans s2) (.tup (SqT.of upd_same) (r1.same s2)) g1
def eLst (g : AF) : EF := fun ρ => (g ρ).map fun ps => (.lst (ps.map (·.1)), joinA ps)
theorem TagOk.cons {K : PySem.W.Frag} {H0 : Hp} {S : List Addr} {z : Addr → Option Nat} {held : List Held} {ρ : Rho} {σ : St} {H H1 : Hp} {t : Tag} {fp : List Addr} {a : Addr} (ok : Ok K H0 S z held ρ σ H) (s : Same H H1) (h : TagOk z H t fp)
    (d : ∀ b ∈ fp, ∃ o, H1 b = some o ∧ MutO o = true) (ha : H1 a = none) : TagOk z H t (a :: fp) := by
  have na : H a = none := s.free ha
  have both : (fp.Nodup ∧ ∀ b ∈ fp, H b = none) → (a :: fp).Nodup ∧ ∀ b ∈ a :: fp, H b = none := fun p => by
    refine ⟨List.nodup_cons.mpr ⟨fun m => ?_, p.1⟩, fun b m => ?_⟩
    · obtain ⟨o, w, _⟩ := d a m
      rw [ha] at w; cases w
    · rcases List.mem_cons.mp m with e | m
      · rw [e]; exact na
      · exact p.2 b m
  cases t with
  | sh o =>
    intro b m j q
    rcases List.mem_cons.mp m with e | m
    · obtain ⟨⟨o, w⟩, _⟩ := ok.zd b j q
      rw [e, na] at w; cases w
    · exact h b m j q
  | own => exact both h
  | lk => exact both h
theorem fp_lst {es : List Expr} {g : AF} (h : FA X es g) (hl : es.length ≤ 1000 := by decide) : FP X (.List es pos) (eLst g) := by
  obtain ⟨t, p, hg, q⟩ := h
  refine ⟨_, pe_lst p, fun H0 S z held ρ σ H Q d tg ok e k => ?_⟩
  unfold eLst at e
  cases h1 : g ρ with
  | none => rw [h1] at e; cases e
  | some ps =>
    rw [h1] at e
    cases e
    refine q H0 S z held ρ σ H _ ps ok h1 fun H1 vs fp s1 r1 g1 => ⟨?_, fun a ha => ?_⟩
    · rw [← r1.length, List.length_map, hg ρ ps h1]
      exact Nat.le_of_lt (small1000 hl)
    · have s2 : Same H1 (upd H1 a (.lst vs)) := fun b o e => by rw [upd_ne (ne_of_none e ha)]; exact e
      exact k _ _ (a :: fp) (s1.trans s2) (.lst upd_same (r1.same s2)) (g1.cons ok s1 r1.dom ha)
end
def spF (K : PySem.W.Frag) (F : List D → Option D) : Sp := fun vs H Q _ => ∃ ds fp d, Reps K H ds vs fp ∧ F ds = some d ∧ ∀ H' v fp', Same H H' → Rep K H' d v fp' → fp'.Nodup → (∀ a ∈ fp', H a = none) → Q v H'
def eCall (F : List D → Option D) (g : AF) : EF := fun ρ => (g ρ).bind fun ps => (F (ps.map (·.1))).map fun d => (d, .own)
theorem eCall_of {F : List D → Option D} {g : AF} {ρ : Rho} {d : D} {tg : Tag} (e : eCall F g ρ = some (d, tg)) : ∃ ps, g ρ = some ps ∧ F (ps.map (·.1)) = some d ∧ tg = .own := by
  unfold eCall at e
  cases h1 : g ρ with
  | none => rw [h1] at e; cases e
  | some ps =>
    rw [h1, Option.bind_some] at e
    cases h2 : F (ps.map (·.1)) with
    | none => rw [h2] at e; cases e
    | some d' =>
      rw [h2] at e
      cases e
      exact ⟨ps, rfl, h2, rfl⟩
section
variable {X : Cx} {x : Str} {p pos : Pos} {e : Expr} {es : List Expr} {k : Nat} {f : Addr} {fd : FuncData} {ps : List Str} {F : List D → Option D} {g : AF}
theorem fp_call (G : FnOk X.prog X.w X.K X.mg X.base CX0 k f fd ps (spF X.K F)) (hr : Room k X.A) (hm : X.mg x = some (.ref f)) (hk : PySem.W.keepIn X.K (.ref f) = true) (hb : Binds X.K fd ps []) (ha : FA X (e :: es) g)
    (hg : Gl X x := by rfl) (hdb : (x == ("__debug__" : Str)) = false := by decide)
    (he : starEach (e :: es) X.env = (false, eval e X.env) :: starEach es X.env := by rfl) (hpl : (backTo pos (starEach es X.env)).any (·.1) = false := by rfl) : FP X (.Call (.Name x p) (e :: es) [] pos) (eCall F g) := by
  obtain ⟨t, pa, _, sa⟩ := ha
  refine ⟨_, pe_call G hr hg hm hk hb .nil pass0 pa hdb he hpl, fun H0 S z held ρ σ H Q d tg ok e0 q => ?_⟩
  obtain ⟨qs, e1, e2, rfl⟩ := eCall_of e0
  refine sa H0 S z held ρ σ H _ qs ok e1 fun H1 vs fp s1 r1 _ => ?_
  rw [List.append_nil]
  exact ⟨_, fp, d, r1, e2, fun H2 v fp' s2 r2 nd fr => q H2 v fp' (s1.trans s2) r2 ⟨nd, fun a m => s1.free (fr a m)⟩⟩
end
end L2.Ev
namespace L2.Ev
open PySem PySem.Spec PyProof.Rows
section
variable {X : Cx} {pos : Pos}
def tV (f : EF) : TF := fun ρ => match f ρ with
  | some (.bl b, _) => some b
  | _ => none
theorem tV_of {f : EF} {ρ : Rho} {b : Bool} (e : tV f ρ = some b) : ∃ t, f ρ = some (.bl b, t) := by
  unfold tV at e
  cases h : f ρ with
  | none => rw [h] at e; cases e
  | some p =>
    obtain ⟨d, t⟩ := p
    rw [h] at e
    cases d <;> first | (cases e; exact ⟨t, rfl⟩) | cases e
theorem ft_val {e : Expr} {f : EF} (h : FP X e f) (he : ∀ whole, isTrue e X.env whole = (do let v ← whole; standAt e.pos; holding [v] (truthy v)) := by intro _; rfl) : FT X e (tV f) := by
  obtain ⟨t, p, q⟩ := h
  refine ⟨_, pt_val p he, fun H0 S z held ρ σ H Q b ok e k => ?_⟩
  obtain ⟨tg, e1⟩ := tV_of e
  refine q H0 S z held ρ σ H _ _ tg ok e1 fun H1 v fp s1 r1 _ => ?_
  cases r1
  exact ⟨b, rfl, k H1 s1⟩
theorem ft_cmp {op : CmpOp} {r : R2} {o : D → D → Option D} {a b : Expr} {fa fb : EF} (ho : OpR X (compareOp op) r) (dd : Does2 X.K r o) (ha : FP X a fa) (hb : FP X b fb) (hm : behindInMarks op b = false) : FT X (.Compare a [op] [b] pos) (tV (e2 o fa fb)) := by
  obtain ⟨ta, pa, sa⟩ := ha
  obtain ⟨tb, pb, sb⟩ := hb
  refine ⟨_, pt_cmpR ho pa pb hm, fun H0 S z held ρ σ H Q c ok e k => ?_⟩
  obtain ⟨tg, e0⟩ := tV_of e
  obtain ⟨d1, t1, d2, t2, e1, e2', e3, rfl⟩ := e2_of e0
  refine sa H0 S z held ρ σ H _ d1 t1 ok e1 fun H1 x f1 s1 r1 _ => ?_
  refine sb H0 S z held ρ σ H1 _ d2 t2 (ok.same s1) e2' fun H2 y f2 s2 r2 _ => ?_
  refine dd H2 x y d1 d2 f1 f2 _ _ (r1.same s2) r2 e3 fun H3 v s3 r3 => ?_
  cases r3
  exact ⟨c, rfl, k H3 ((s1.trans s2).trans s3)⟩
theorem fp_cmp {op : CmpOp} {r : R2} {o : D → D → Option D} {a b : Expr} {fa fb : EF} (ho : OpR X (compareOp op) r) (dd : Does2 X.K r o) (ha : FP X a fa) (hb : FP X b fb) (hm : behindInMarks op b = false) : FP X (.Compare a [op] [b] pos) (e2 o fa fb) :=
  fp_2 dd ha hb fun _ _ pa pb => pe_cmpR ho pa pb hm
theorem fp_bin {op : Operator} {r : R2} {o : D → D → Option D} {a b : Expr} {fa fb : EF} (ho : OpR X (binaryOp op) r) (dd : Does2 X.K r o) (ha : FP X a fa) (hb : FP X b fb) : FP X (.BinOp a op b pos) (e2 o fa fb) :=
  fp_2 dd ha hb fun _ _ pa pb => pe_op ho pa pb
def tAnd2 (f g : TF) : TF := fun ρ => match f ρ with
  | some true => g ρ
  | some false => some false
  | none => none
def tOr2 (f g : TF) : TF := fun ρ => match f ρ with
  | some true => some true
  | some false => g ρ
  | none => none
def tNot1 (f : TF) : TF := fun ρ => (f ρ).map fun b => !b
def FW (X : Cx) (e : Expr) (f : TF) : Prop := ∃ t, PW X e t ∧ ∀ (H0 : Hp) (S : List Addr) (z : Addr → Option Nat) (held : List Held) (ρ : Rho) (σ : St) (H : Hp) (Q : Bool → Hp → Prop) (b : Bool),
  Ok X.K H0 S z held ρ σ H → f ρ = some b → (∀ H', Same H H' → Q b H') → t σ H Q
theorem FW.ft {e : Expr} {f : TF} (h : FW X e f) : FT X e f := let ⟨t, p, q⟩ := h; ⟨t, p.pt, q⟩
theorem fw_and1 {a : Expr} {f : TF} (h : FT X a f) : FW X (.BoolOp .And [a] pos) f := let ⟨t, p, q⟩ := h; ⟨t, pw_and1 p, q⟩
theorem fw_or1 {a : Expr} {f : TF} (h : FT X a f) : FW X (.BoolOp .Or [a] pos) f := let ⟨t, p, q⟩ := h; ⟨t, pw_or1 p, q⟩
theorem fw_and {a b : Expr} {rest : List Expr} {f g : TF} (ha : FT X a f) (hb : FW X (.BoolOp .And (b :: rest) pos) g) : FW X (.BoolOp .And (a :: b :: rest) pos) (tAnd2 f g) := by
  obtain ⟨t, p, q⟩ := ha
  obtain ⟨t', p', q'⟩ := hb
  refine ⟨_, pw_and p p', fun H0 S z held ρ σ H Q c ok e k => ?_⟩
  unfold tAnd2 at e
  cases h : f ρ with
  | none => rw [h] at e; cases e
  | some y =>
    rw [h] at e
    cases y with
    | false =>
      cases e
      refine q H0 S z held ρ σ H _ false ok h fun H1 s1 => ?_
      rw [if_neg Bool.false_ne_true]
      exact k H1 s1
    | true =>
      refine q H0 S z held ρ σ H _ true ok h fun H1 s1 => ?_
      rw [if_pos rfl]
      exact q' H0 S z held ρ σ H1 _ c (ok.same s1) e fun H2 s2 => k H2 (s1.trans s2)
theorem fw_or {a b : Expr} {rest : List Expr} {f g : TF} (ha : FT X a f) (hb : FW X (.BoolOp .Or (b :: rest) pos) g) : FW X (.BoolOp .Or (a :: b :: rest) pos) (tOr2 f g) := by
  obtain ⟨t, p, q⟩ := ha
  obtain ⟨t', p', q'⟩ := hb
  refine ⟨_, pw_or p p', fun H0 S z held ρ σ H Q c ok e k => ?_⟩
  unfold tOr2 at e
  cases h : f ρ with
  | none => rw [h] at e; cases e
  | some y =>
    rw [h] at e
    cases y with
    | true =>
      cases e
      refine q H0 S z held ρ σ H _ true ok h fun H1 s1 => ?_
      rw [if_pos rfl]
      exact k H1 s1
    | false =>
      refine q H0 S z held ρ σ H _ false ok h fun H1 s1 => ?_
      rw [if_neg Bool.false_ne_true]
      exact q' H0 S z held ρ σ H1 _ c (ok.same s1) e fun H2 s2 => k H2 (s1.trans s2)
theorem ft_not {a : Expr} {f : TF} (ha : FT X a f) : FT X (.UnaryOp .Not a pos) (tNot1 f) := by
  obtain ⟨t, p, q⟩ := ha
  refine ⟨_, pt_not p, fun H0 S z held ρ σ H Q c ok e k => ?_⟩
  unfold tNot1 at e
  cases h : f ρ with
  | none => rw [h] at e; cases e
  | some y =>
    rw [h] at e
    cases e
    exact q H0 S z held ρ σ H _ y ok h fun H1 s1 => k H1 s1
def eB (f : TF) : EF := fun ρ => (f ρ).map fun b => (.bl b, .own)
end
inductive Out where
  | nx (ρ : Rho) | rt (d : D) | bk (ρ : Rho) | ct (ρ : Rho)
abbrev SF := Rho → Option Out
def Post (K : PySem.W.Frag) (H0 : Hp) (S : List Addr) (held : List Held) (E : Ends) : Out → Prop
  | .nx ρ => ∀ z σ H, Ok K H0 S z held ρ σ H → E.nx σ H
  | .bk ρ => ∀ z σ H, Ok K H0 S z held ρ σ H → E.bk σ H
  | .ct ρ => ∀ z σ H, Ok K H0 S z held ρ σ H → E.ct σ H
  | .rt d => ∀ H v fp, (∀ a o, H0 a = some o → a ∉ S → H a = some o) → Rep K H d v fp → fp.Nodup → (∀ a ∈ fp, H0 a = none ∨ a ∈ S) → E.rt v H
def FS (X : Cx) (st : List Stmt) (f : SF) : Prop := ∃ t, PSs X st t ∧ ∀ (H0 : Hp) (S : List Addr) (z : Addr → Option Nat) (held : List Held) (ρ : Rho) (σ : St) (H : Hp) (E : Ends) (o : Out),
  Ok X.K H0 S z held ρ σ H → f ρ = some o → Post X.K H0 S held E o → t E σ H
def FS1 (X : Cx) (st : Stmt) (f : SF) : Prop := ∃ t, PS X st t ∧ ∀ (H0 : Hp) (S : List Addr) (z : Addr → Option Nat) (held : List Held) (ρ : Rho) (σ : St) (H : Hp) (E : Ends) (o : Out),
  Ok X.K H0 S z held ρ σ H → f ρ = some o → Post X.K H0 S held E o → t E σ H
def sNx : SF := fun ρ => some (.nx ρ)
def sSeq (f g : SF) : SF := fun ρ => match f ρ with
  | some (.nx ρ') => g ρ'
  | o => o
section
variable {X : Cx} {pos : Pos}
theorem fs_nil : FS X [] sNx := ⟨_, pss_nil, fun _ _ z _ _ σ H _ _ ok e k => by cases e; exact k z σ H ok⟩
theorem fs_one {st : Stmt} {f : SF} (h : FS1 X st f) : FS X [st] f := let ⟨t, p, q⟩ := h; ⟨t, pss_one p, q⟩
theorem fs_cons {st : Stmt} {rest : List Stmt} {f g : SF} (h1 : FS1 X st f) (h2 : FS X rest g) : FS X (st :: rest) (sSeq f g) := by
  obtain ⟨t, p, q⟩ := h1
  obtain ⟨t', p', q'⟩ := h2
  refine ⟨_, pss_cons p p', fun H0 S z held ρ σ H E o ok e k => ?_⟩
  unfold sSeq at e
  cases h : f ρ with
  | none => rw [h] at e; cases e
  | some w =>
    refine q H0 S z held ρ σ H _ w ok h ?_
    rw [h] at e
    cases w with
    | nx ρ' => exact fun z' σ' H' ok' => q' H0 S z' held ρ' σ' H' E o ok' e k
    | rt d => cases e; exact k
    | bk ρ' => cases e; exact k
    | ct ρ' => cases e; exact k
theorem fs_pass : FS1 X (.Pass pos) sNx := ⟨_, ps_pass, fun _ _ z _ _ σ H _ _ ok e k => by cases e; exact k z σ H ok⟩
def sBk : SF := fun ρ => some (.bk ρ)
def sCt : SF := fun ρ => some (.ct ρ)
theorem fs_break : FS1 X (.Break pos) sBk := ⟨_, ps_break, fun _ _ z _ _ σ H _ _ ok e k => by cases e; exact k z σ H ok⟩
theorem fs_continue : FS1 X (.Continue pos) sCt := ⟨_, ps_continue, fun _ _ z _ _ σ H _ _ ok e k => by cases e; exact k z σ H ok⟩
def sNo : SF := fun _ => none
theorem fs_no {st : Stmt} : FS1 X st sNo := ⟨_, ps_never, fun _ _ _ _ _ _ _ _ _ _ e _ => by cases e⟩
theorem fss_no {st : List Stmt} : FS X st sNo := ⟨_, pss_never, fun _ _ _ _ _ _ _ _ _ _ e _ => by cases e⟩
def sIf (c : TF) (f g : SF) : SF := fun ρ => match c ρ with
  | some true => f ρ
  | some false => g ρ
  | none => none
theorem fs_if {c : Expr} {a b : List Stmt} {tc : TF} {f g : SF} (hc : FT X c tc) (ha : FS X a f) (hb : FS X b g) : FS1 X (.If c a b pos) (sIf tc f g) := by
  obtain ⟨t, p, q⟩ := hc
  obtain ⟨t1, p1, q1⟩ := ha
  obtain ⟨t2, p2, q2⟩ := hb
  refine ⟨_, ps_if p p1 p2, fun H0 S z held ρ σ H E o ok e k => ?_⟩
  unfold sIf at e
  cases h : tc ρ with
  | none => rw [h] at e; cases e
  | some y =>
    rw [h] at e
    refine q H0 S z held ρ σ H _ y ok h fun H1 s1 => ?_
    cases y with
    | true => rw [if_pos rfl]; exact q1 H0 S z held ρ σ H1 E o (ok.same s1) e k
    | false => rw [if_neg Bool.false_ne_true]; exact q2 H0 S z held ρ σ H1 E o (ok.same s1) e k
def isOwn : Tag → Bool
  | .sh _ => false
  | _ => true
def sRet (f : EF) : SF := fun ρ => match f ρ with
  | some (d, t) => if isOwn t = true then some (.rt d) else if imm d = true then some (.rt d) else none
  | none => none
theorem fs_ret {e : Expr} {f : EF} (he : FP X e f) : FS1 X (.Return (some e) pos) (sRet f) := by
  obtain ⟨t, p, q⟩ := he
  refine ⟨_, ps_ret p, fun H0 S z held ρ σ H E o ok e k => ?_⟩
  unfold sRet at e
  cases h : f ρ with
  | none => rw [h] at e; cases e
  | some w =>
    obtain ⟨d, tg⟩ := w
    rw [h] at e
    dsimp only at e
    refine q H0 S z held ρ σ H _ d tg ok h fun H1 v fp s1 r1 g1 => ?_
    have en : ∀ a o, H0 a = some o → a ∉ S → H1 a = some o := fun a o e n => s1 _ _ (ok.en a o e n)
    by_cases ho : isOwn tg = true
    · rw [if_pos ho] at e
      cases e
      have g : fp.Nodup ∧ ∀ a ∈ fp, H a = none := by cases tg <;> first | exact g1 | cases ho
      refine k H1 v fp en r1 g.1 fun a m => ?_
      cases h0 : H0 a with
      | none => exact .inl rfl
      | some o =>
        by_cases hs : a ∈ S
        · exact .inr hs
        · have w := ok.en a o h0 hs
          rw [g.2 a m] at w; cases w
    · rw [if_neg ho] at e
      by_cases hi : imm d = true
      · rw [if_pos hi] at e
        cases e
        have hn := r1.imm hi
        subst hn
        exact k H1 v [] en r1 List.nodup_nil fun a m => nomatch m
      · rw [if_neg hi] at e; cases e
def sRetV (i : Nat) : SF := fun ρ => match ρ[i]? with
  | some (some (d, t)) => if isOwn t = true then some (.rt d) else if imm d = true then some (.rt d) else none
  | _ => none
theorem fs_retV (i : Nat) {x : Str} {pos' : Pos} (hN : X.N[i]? = some x := by rfl) (hv : Vis X.env.scope x := by first | exact Or.inl rfl | exact Or.inr (Or.inl rfl) | exact Or.inr (Or.inr rfl)) (hd : (x == ("__debug__" : Str)) = false := by decide)
    (hcd : (x == ("__classdict__" : Str)) = false := by decide) : FS1 X (.Return (some (.Name x pos')) pos) (sRetV i) := by
  refine ⟨_, ps_ret (pe_var (i := i) hN hv hd hcd), fun H0 S z held ρ σ H E o ok e k => ?_⟩
  unfold sRetV at e
  cases h : ρ[i]? with
  | none => rw [h] at e; cases e
  | some w =>
    cases w with
    | none => rw [h] at e; cases e
    | some w =>
      obtain ⟨d, tg⟩ := w
      rw [h] at e
      dsimp only at e
      obtain ⟨v, fp, hs, r, zz⟩ := ok.sl i d tg h
      refine ⟨v, hs, ?_⟩
      by_cases ho : isOwn tg = true
      · rw [if_pos ho] at e
        cases e
        have g : fp.Nodup ∧ ∀ a ∈ fp, z a = some i := by cases tg <;> first | exact zz | cases ho
        exact k H v fp ok.en r g.1 fun a m => (ok.zd a i (g.2 a m)).2
      · rw [if_neg ho] at e
        by_cases hi : imm d = true
        · rw [if_pos hi] at e
          cases e
          have hn := r.imm hi
          subst hn
          exact k H v [] ok.en r List.nodup_nil fun a m => nomatch m
        · rw [if_neg hi] at e; cases e
def setS (ρ : Rho) (i : Nat) (d : D) : Tag → Rho
  | .sh o => ρ.set i (some (d, .sh o))
  | _ => ρ.set i (some (d, .own))
def sSet (i : Nat) (f : EF) : SF := fun ρ => match f ρ with
  | some (d, t) => some (.nx (setS ρ i d t))
  | none => none
theorem Ok.set {K : PySem.W.Frag} {H0 : Hp} {S : List Addr} {z : Addr → Option Nat} {held : List Held} {ρ : Rho} {σ : St} {H H1 : Hp} {i : Nat} {d : D} {t : Tag} {v : V} {fp : List Addr} (ok : Ok K H0 S z held ρ σ H) (hi : i < σ.length) (s : Same H H1)
    (r : Rep K H1 d v fp) (g : TagOk z H t fp) : ∃ z', Ok K H0 S z' held (setS ρ i d t) (σ.set i (some v)) H1 := by
  classical
  have hiρ : i < ρ.length := by rw [ok.ln]; exact hi
  have dH : ∀ {a : Addr}, H a = none → z a = none := fun {a} e => by
    cases q : z a with
    | none => rfl
    | some j => obtain ⟨⟨o, w⟩, _⟩ := ok.zd a j q; rw [e] at w; cases w
  have main : ∀ (fo : List Addr) (tg : Tag), (∀ a ∈ fo, H a = none ∧ ∃ o, H1 a = some o) → InZ (fun a => if a ∈ fo then some i else if z a = some i then none else z a) i tg fp →
      Ok K H0 S (fun a => if a ∈ fo then some i else if z a = some i then none else z a) held (ρ.set i (some (d, tg))) (σ.set i (some v)) H1 := by
    intro fo tg hfo hz
    have old : ∀ {fp' : List Addr}, (∀ a ∈ fp', ∃ o, H a = some o ∧ MutO o = true) → ∀ a ∈ fp', (if a ∈ fo then some i else if z a = some i then none else z a) = (if z a = some i then none else z a) := fun {fp'} h a m => by
      rw [if_neg fun q => ?_]
      obtain ⟨o, w, _⟩ := h a m
      rw [(hfo a q).1] at w; cases w
    refine ⟨fun j d' t' e => ?_, fun p hp => ?_, fun a j e => ?_, fun a o e n => s _ _ (ok.en a o e n), by rw [List.length_set, List.length_set]; exact ok.ln⟩
    · by_cases hj : j = i
      · subst hj
        rw [List.getElem?_set_self hiρ] at e
        cases e
        exact ⟨v, fp, List.getElem?_set_self hi, r, hz⟩
      · rw [List.getElem?_set_ne (Ne.symm hj)] at e
        obtain ⟨v', fp', hs', r', z'⟩ := ok.sl j d' t' e
        refine ⟨v', fp', by rw [List.getElem?_set_ne (Ne.symm hj)]; exact hs', r'.same s, ?_⟩
        have o1 := old r'.dom
        cases t' with
        | sh o =>
          intro a m k q
          dsimp only at q
          rw [o1 a m] at q
          by_cases w : z a = some i
          · rw [if_pos w] at q; cases q
          · rw [if_neg w] at q; exact z' a m k q
        | own => exact ⟨z'.1, fun a m => by dsimp only; rw [o1 a m, if_neg (by rw [z'.2 a m]; intro w; exact hj (Option.some.inj w))]; exact z'.2 a m⟩
        | lk => exact ⟨z'.1, fun a m => by dsimp only; rw [o1 a m, if_neg (by rw [z'.2 a m]; intro w; exact hj (Option.some.inj w))]; exact z'.2 a m⟩
    · obtain ⟨r', hl'⟩ := ok.hl p hp
      refine ⟨r'.same s, fun a m j q => ?_⟩
      rw [old r'.dom a m] at q
      by_cases w : z a = some i
      · rw [if_pos w] at q; cases q
      · rw [if_neg w] at q
        obtain ⟨z0', e'⟩ := hl' a m j q
        have hj : j ≠ i := fun e => w (by rw [← e]; exact q)
        exact ⟨z0', fun d' => by rw [List.getElem?_set_ne (Ne.symm hj)]; exact e' d'⟩
    · by_cases w : a ∈ fo
      · obtain ⟨w1, w2⟩ := hfo a w
        refine ⟨w2, ?_⟩
        cases h0 : H0 a with
        | none => exact .inl rfl
        | some o =>
          by_cases hs : a ∈ S
          · exact .inr hs
          · have q := ok.en a o h0 hs
            rw [w1] at q; cases q
      · rw [if_neg w] at e
        by_cases w' : z a = some i
        · rw [if_pos w'] at e; cases e
        · rw [if_neg w'] at e
          obtain ⟨⟨o, x⟩, y⟩ := ok.zd a j e
          exact ⟨⟨o, s _ _ x⟩, y⟩
  have own : (fp.Nodup ∧ ∀ a ∈ fp, H a = none) → Ok K H0 S (fun a => if a ∈ fp then some i else if z a = some i then none else z a) held (ρ.set i (some (d, .own))) (σ.set i (some v)) H1 := fun g =>
    main fp .own (fun a m => ⟨g.2 a m, let ⟨o, w, _⟩ := r.dom a m; ⟨o, w⟩⟩) ⟨g.1, fun a m => if_pos m⟩
  cases t with
  | own => exact ⟨_, own g⟩
  | lk => exact ⟨_, own g⟩
  | sh o =>
    refine ⟨_, main [] (.sh o) (fun a m => nomatch m) fun a m j q => ?_⟩
    have q : (if a ∈ ([] : List Addr) then some i else if z a = some i then none else z a) = some j := q
    rw [if_neg (show ¬ a ∈ ([] : List Addr) from fun w => nomatch w)] at q
    by_cases w : z a = some i
    · rw [if_pos w] at q; cases q
    · rw [if_neg w] at q; exact g a m j q
theorem Ok.stored {K : PySem.W.Frag} {H0 : Hp} {S : List Addr} {z : Addr → Option Nat} {held : List Held} {ρ : Rho} {σ : St} {H H1 : Hp} {i : Nat} {d : D} {t : Tag} {v : V} {fp : List Addr} {G : Prop} (ok : Ok K H0 S z held ρ σ H) (s : Same H H1)
    (r : Rep K H1 d v fp) (g : TagOk z H t fp) (k : ∀ z', Ok K H0 S z' held (setS ρ i d t) (σ.set i (some v)) H1 → G) : G := by
  by_cases hi : i < σ.length
  · obtain ⟨z', ok'⟩ := ok.set hi s r g
    exact k z' ok'
  · have e1 : σ.set i (some v) = σ := List.set_eq_of_length_le (Nat.le_of_not_lt hi)
    have e2 : ∀ w, ρ.set i w = ρ := fun w => List.set_eq_of_length_le (by rw [ok.ln]; exact Nat.le_of_not_lt hi)
    have e3 : setS ρ i d t = ρ := by cases t <;> exact e2 _
    refine k z ?_
    rw [e1, e3]
    exact ok.same s
theorem fs_set (i : Nat) {x : Str} {e : Expr} {f : EF} {pos' : Pos} (he : FP X e f) (hN : X.N.Nodup) (hi : X.N[i]? = some x := by rfl) (hx : Loc X.env.scope x := by first | exact Or.inl rfl | exact Or.inr rfl)
    (hs : swapsWith e (some (.Name x pos')) pos.line X.env = pure false := by rfl) (hf : X.fn x = true ∨ X.env.scope.names.lookup x = some .local := by first | exact .inl rfl | exact .inr rfl) : FS1 X (.Assign [.Name x pos'] e pos) (sSet i f) := by
  obtain ⟨t, p, q⟩ := he
  refine ⟨_, ps_set (i := i) hN hi hx p hs hf, fun H0 S z held ρ σ H E o ok e k => ?_⟩
  unfold sSet at e
  cases h : f ρ with
  | none => rw [h] at e; cases e
  | some w =>
    obtain ⟨d, tg⟩ := w
    rw [h] at e
    cases e
    refine q H0 S z held ρ σ H _ d tg ok h fun H1 v fp s1 r1 g1 => ?_
    exact ok.stored s1 r1 g1 fun z' ok' => k z' _ H1 ok'
end
end L2.Ev
namespace L2.Ev
open PySem PySem.Spec PyProof.Rows
abbrev GF := D → Tag → Rho → Option Rho
def FG (X : Cx) (tg : Expr) (g : GF) (is : List Nat) : Prop := ∃ t, PG X tg t ∧ ∀ (H0 : Hp) (S : List Addr) (z : Addr → Option Nat) (held : List Held) (ρ : Rho) (σ : St) (H H1 : Hp) (v : V) (d : D) (tag : Tag) (fp : List Addr) (Q : St → Hp → Prop) (ρ' : Rho),
  Ok X.K H0 S z held ρ σ H → Same H H1 → Rep X.K H1 d v fp → TagOk z H tag fp → g d tag ρ = some ρ' → (∀ z' σ', Ok X.K H0 S z' held ρ' σ' H1 → (σ'.length = σ.length ∧ ∀ j, j ∉ is → σ'[j]? = σ[j]?) → Q σ' H1) → t v σ H1 Q
def gN (i : Nat) : GF := fun d t ρ => some (setS ρ i d t)
abbrev GsF := List D → Rho → Option Rho
def FGs (X : Cx) (ts : List Expr) (g : GsF) (is : List Nat) : Prop := ∃ t, PGs X ts t ∧ (∀ ds ρ ρ', g ds ρ = some ρ' → ds.length = ts.length) ∧ ∀ (H0 : Hp) (S : List Addr) (z : Addr → Option Nat) (held : List Held) (ρ : Rho) (σ : St) (H : Hp) (vs : List V) (ds : List D) (fp : List Addr) (Q : St → Hp → Prop) (ρ' : Rho),
  Ok X.K H0 S z held ρ σ H → Reps X.K H ds vs fp → g ds ρ = some ρ' → (∀ z' σ', Ok X.K H0 S z' held ρ' σ' H → (σ'.length = σ.length ∧ ∀ j, j ∉ is → σ'[j]? = σ[j]?) → Q σ' H) → t vs σ H Q
def gsNil : GsF := fun ds ρ => match ds with
  | [] => some ρ
  | _ => none
def gsCons (g : GF) (gs : GsF) : GsF := fun ds ρ => match ds with
  | d :: r => if imm d = true then (g d .own ρ).bind fun ρ' => gs r ρ' else none
  | _ => none
theorem gsCons_of {g : GF} {gs : GsF} {ds : List D} {ρ ρ' : Rho} (e : gsCons g gs ds ρ = some ρ') : ∃ d r ρ1, ds = d :: r ∧ imm d = true ∧ g d .own ρ = some ρ1 ∧ gs r ρ1 = some ρ' := by
  cases ds with
  | nil => cases e
  | cons d r =>
    unfold gsCons at e
    dsimp only at e
    by_cases hi : imm d = true
    · rw [if_pos hi] at e
      cases h : g d .own ρ with
      | none => rw [h] at e; cases e
      | some ρ1 =>
        rw [h, Option.bind_some] at e
        exact ⟨d, r, ρ1, rfl, hi, h, e⟩
    · rw [if_neg hi] at e; cases e
def gT (gs : GsF) : GF := fun d _ ρ => match d with
  | .tup ds => gs ds ρ
  | _ => none
section
variable {X : Cx} {pos : Pos}
theorem fg_name (i : Nat) {x : Str} (hN : X.N.Nodup) (hi : X.N[i]? = some x := by rfl) (hx : Loc X.env.scope x := by first | exact Or.inl rfl | exact Or.inr rfl) (hf : X.fn x = true ∨ X.env.scope.names.lookup x = some .local := by first | exact .inl rfl | exact .inr rfl) : FG X (.Name x pos) (gN i) [i] := by
  refine ⟨_, pg_name (i := i) hN hi hx hf, fun H0 S z held ρ σ H H1 v d tag fp Q ρ' ok s r g e k => ?_⟩
  cases e
  exact ok.stored s r g fun z' ok' => k z' _ ok' ⟨List.length_set .., fun j hj => List.getElem?_set_ne fun e => hj (by rw [e]; exact List.mem_cons_self)⟩
theorem fgs_nil : FGs X [] gsNil [] := by
  refine ⟨_, pgs_nil, fun ds ρ ρ' e => ?_, fun H0 S z held ρ σ H vs ds fp Q ρ' ok r e k => ?_⟩
  · cases ds with
    | nil => rfl
    | cons _ _ => cases e
  · cases ds with
    | nil => cases r; cases e; exact ⟨rfl, k z σ ok ⟨rfl, fun _ _ => rfl⟩⟩
    | cons _ _ => cases e
theorem fgs_cons {e : Expr} {es : List Expr} {g : GF} {gs : GsF} {is ks : List Nat} (h1 : FG X e g is) (h2 : FGs X es gs ks) (hs : (assignEach (e :: es) X.env).map (·.2) = assign e X.env :: (assignEach es X.env).map (·.2) := by rfl) : FGs X (e :: es) (gsCons g gs) (is ++ ks) := by
  obtain ⟨t, p, q⟩ := h1
  obtain ⟨t', p', l', q'⟩ := h2
  refine ⟨_, pgs_cons p p' hs, fun ds ρ ρ' e => ?_, fun H0 S z held ρ σ H vs ds fp Q ρ' ok r e k => ?_⟩
  · obtain ⟨d, r, ρ1, rfl, _, _, h⟩ := gsCons_of e
    rw [List.length_cons, List.length_cons, l' r ρ1 ρ' h]
  · obtain ⟨d, dr, ρ1, rfl, hi, h1, h2⟩ := gsCons_of e
    cases r with
    | @cons _ v _ vr f1 f2 r1 r2 =>
      have hn := r1.imm hi
      subst hn
      exact ⟨v, vr, rfl, q H0 S z held ρ σ H H v d .own [] _ ρ1 ok (Same.refl H) r1 .nil h1 fun z1 σ1 ok1 a1 => q' H0 S z1 held ρ1 σ1 H vr dr f2 Q ρ' ok1 r2 h2 fun z2 σ2 ok2 a2 => k z2 σ2 ok2 ⟨a2.1.trans a1.1, fun j hj => (a2.2 j fun m => hj (List.mem_append_right _ m)).trans (a1.2 j fun m => hj (List.mem_append_left _ m))⟩⟩
theorem fg_tup {es : List Expr} {k : Nat} {gs : GsF} {is : List Nat} (hc : X.calm = true) (h : FGs X es gs is) (hn : (assignEach es X.env).length = es.length := by rfl) (hst : (assignEach es X.env).findIdx? (·.1) = none := by rfl) : FG X (.Tuple es k pos) (gT gs) is := by
  obtain ⟨t, p, l, q⟩ := h
  refine ⟨_, pg_tup hc p hn hst, fun H0 S z held ρ σ H H1 v d tag fp Q ρ' ok s r g e k => ?_⟩
  cases r with
  | @tup a xs ds fp hq rs =>
    have e : gs ds ρ = some ρ' := e
    exact ⟨a, xs, rfl, hq, by rw [← rs.length]; exact l ds ρ ρ' e, q H0 S z held ρ σ H1 xs ds fp Q ρ' (ok.same s) rs e k⟩
  | _ => cases e
def sAsg (f : EF) (g : GF) : SF := fun ρ => match f ρ with
  | some (d, t) => (g d t ρ).map .nx
  | none => none
theorem fs_asg {tg e : Expr} {f : EF} {g : GF} {is : List Nat} (he : FP X e f) (hg : FG X tg g is) (hs : swapsWithSole [tg] e pos.line X.env = pure false := by rfl) (hw : swappedStores [tg] e X.env = pure none := by rfl)
    (h1 : (assignEach [tg] X.env).map (·.2) = [assign tg X.env] := by rfl) : FS1 X (.Assign [tg] e pos) (sAsg f g) := by
  obtain ⟨t, p, q⟩ := he
  obtain ⟨t', p', q'⟩ := hg
  refine ⟨_, ps_asg p p' hs hw h1, fun H0 S z held ρ σ H E o ok e k => ?_⟩
  unfold sAsg at e
  cases h : f ρ with
  | none => rw [h] at e; cases e
  | some w =>
    obtain ⟨d, tg⟩ := w
    rw [h] at e
    dsimp only at e
    cases h2 : g d tg ρ with
    | none => rw [h2] at e; cases e
    | some ρ' =>
      rw [h2] at e
      cases e
      exact q H0 S z held ρ σ H _ d tg ok h fun H1 v fp s1 r1 g1 => q' H0 S z held ρ σ H H1 v d tg fp _ ρ' ok s1 r1 g1 h2 fun z' σ' ok' _ => k z' σ' H1 ok'
end
structure Hv where
  d : D
  v : V
  fp : List Addr
def ItOk (K : PySem.W.Frag) (J : It) (ds : List D) (hv : List Hv) : Prop := ∀ (H : Hp) (i : Nat), (∀ h ∈ hv, Rep K H h.d h.v h.fp) →
  (∀ d, ds[i]? = some d → J.go i H ∧ ∀ x H1, J.yld i H x H1 → Same H H1 ∧ ∃ fp, Rep K H1 d x fp ∧ ∀ a ∈ fp, ∃ h ∈ hv, a ∈ h.fp) ∧ (ds.length ≤ i → J.stop i H)
abbrev IF := Rho → Option (List D × Tag)
def FI (X : Cx) (tg iter : Expr) (f : IF) : Prop := ∃ wi, PI X tg iter wi ∧ ∀ (H0 : Hp) (S : List Addr) (z : Addr → Option Nat) (held : List Held) (ρ : Rho) (σ : St) (H : Hp) (R : It → Hp → Prop) (ds : List D) (t : Tag),
  Ok X.K H0 S z held ρ σ H → f ρ = some (ds, t) → (∀ H1 J hv, Same H H1 → (∀ h ∈ hv, Rep X.K H1 h.d h.v h.fp ∧ ∀ a ∈ h.fp, ∀ j, z a = some j → ∃ o, t = .sh o ∧ j ∈ o) → ItOk X.K J ds hv → R J H1) → wi σ H R
def iSeqF (f : EF) : IF := fun ρ => match f ρ with
  | some (.lst ds, t) => some (ds, t)
  | some (.fls ds, t) => some (ds, t)
  | some (.tup ds, t) => some (ds, t)
  | _ => none
def iSeq (K : PySem.W.Frag) (tl : TE) : TI := fun σ H R => tl σ H fun x H1 => ∃ a, x = .ref a ∧ (((∃ xs, SqL K H1 a xs) ∧ R (Itl K a) H1) ∨ ((∃ xs, SqT K H1 a xs) ∧ R (Itt K a) H1))
section
variable {X : Cx} {tg : Expr}
theorem pi_seq {l : Expr} {tl : TE} (hl : PE X l tl) : PI X tg l (iSeq X.K tl) := by
  intro pins s σ H R I h
  refine thn (hl pins s σ H _ I h) fun v s1 ⟨x, H1, I1, r1, q1⟩ => ?_
  obtain ⟨a, e, q⟩ := q1
  subst e
  cases r1
  rcases q with ⟨⟨xs, hq⟩, q⟩ | ⟨⟨xs, hq⟩, q⟩
  · obtain ⟨its, rv, p, hz⟩ := I1.list hq
    refine wpAny_pyIter_list p.isList ?_
    refine ⟨s1.heap.objs.size, [s1.heap.objs.size], _, _, H1, rfl, I1.kept (t' := s1.toks) (fun b o e => Heap.get?_push_of_some _ e), turn_list a _, ⟨_, Heap.get?_push_size _ rfl, rfl, rfl⟩, fun b hb => ?_, q⟩
    obtain rfl : b = s1.heap.objs.size := by simpa using hb
    exact I1.fpOk (Nat.le_refl _) (I1.hok.fresh (Nat.le_refl _))
  · obtain ⟨its, rv, p, hz⟩ := I1.tuple hq
    refine wpAny_pyIter_tuple (show s1.heap.IsTuple a its.toArray from p) ?_
    refine ⟨s1.heap.objs.size, [s1.heap.objs.size], _, _, H1, rfl, I1.kept (t' := s1.toks) (fun b o e => Heap.get?_push_of_some _ e), turn_tuple a _, ⟨_, Heap.get?_push_size _ rfl, rfl, rfl⟩, fun b hb => ?_, q⟩
    obtain rfl : b = s1.heap.objs.size := by simpa using hb
    exact I1.fpOk (Nat.le_refl _) (I1.hok.fresh (Nat.le_refl _))
theorem Rep.lst_of {K : PySem.W.Frag} {H : Hp} {ds : List D} {v : V} {fp : List Addr} (r : Rep K H (.lst ds) v fp) : ∃ a xs f, v = .ref a ∧ SqL K H a xs ∧ Reps K H ds xs f ∧ ∀ b ∈ f, b ∈ fp := by
  cases r with
  | lst h rs => exact ⟨_, _, _, rfl, SqL.of h, rs, fun b m => List.mem_cons_of_mem _ m⟩
theorem Rep.fls_of {K : PySem.W.Frag} {H : Hp} {ds : List D} {v : V} {fp : List Addr} (r : Rep K H (.fls ds) v fp) : ∃ a xs, v = .ref a ∧ SqL K H a xs ∧ Reps K H ds xs fp := by
  cases r with
  | lsf h rs => exact ⟨_, _, rfl, h.sq, rs⟩
theorem Rep.tup_of {K : PySem.W.Frag} {H : Hp} {ds : List D} {v : V} {fp : List Addr} (r : Rep K H (.tup ds) v fp) : ∃ a xs, v = .ref a ∧ SqT K H a xs ∧ Reps K H ds xs fp := by
  cases r with
  | tup h rs => exact ⟨_, _, rfl, h, rs⟩
theorem itOk_list {K : PySem.W.Frag} {a : Addr} {ds : List D} {fp : List Addr} : ItOk K (Itl K a) ds [⟨.lst ds, .ref a, fp⟩] := by
  intro H i hh
  have r : Rep K H (.lst ds) (.ref a) fp := hh ⟨.lst ds, .ref a, fp⟩ List.mem_cons_self
  obtain ⟨a', xs, f, e, hq, rs, sub⟩ := r.lst_of
  cases e
  refine ⟨fun d hd => ?_, fun hl => ⟨xs, hq, by rw [← rs.length]; exact hl⟩⟩
  obtain ⟨v, f', hv, rv, s'⟩ := rs.get hd
  refine ⟨⟨xs, v, hq, hv⟩, fun x H1 y => ?_⟩
  obtain ⟨e1, y⟩ := y
  subst e1
  have e2 := y xs hq
  rw [hv] at e2
  cases e2
  exact ⟨Same.refl _, f', rv, fun b m => ⟨_, List.mem_cons_self, sub b (s' b m)⟩⟩
theorem itOk_fls {K : PySem.W.Frag} {a : Addr} {ds : List D} {fp : List Addr} : ItOk K (Itl K a) ds [⟨.fls ds, .ref a, fp⟩] := by
  intro H i hh
  have r : Rep K H (.fls ds) (.ref a) fp := hh ⟨.fls ds, .ref a, fp⟩ List.mem_cons_self
  obtain ⟨a', xs, e, hq, rs⟩ := r.fls_of
  cases e
  refine ⟨fun d hd => ?_, fun hl => ⟨xs, hq, by rw [← rs.length]; exact hl⟩⟩
  obtain ⟨v, f', hv, rv, s'⟩ := rs.get hd
  refine ⟨⟨xs, v, hq, hv⟩, fun x H1 y => ?_⟩
  obtain ⟨e1, y⟩ := y
  subst e1
  have e2 := y xs hq
  rw [hv] at e2
  cases e2
  exact ⟨Same.refl _, f', rv, fun b m => ⟨_, List.mem_cons_self, s' b m⟩⟩
theorem itOk_tup {K : PySem.W.Frag} {a : Addr} {ds : List D} {fp : List Addr} : ItOk K (Itt K a) ds [⟨.tup ds, .ref a, fp⟩] := by
  intro H i hh
  have r : Rep K H (.tup ds) (.ref a) fp := hh ⟨.tup ds, .ref a, fp⟩ List.mem_cons_self
  obtain ⟨a', xs, e, hq, rs⟩ := r.tup_of
  cases e
  refine ⟨fun d hd => ?_, fun hl => ⟨xs, hq, by rw [← rs.length]; exact hl⟩⟩
  obtain ⟨v, f', hv, rv, s'⟩ := rs.get hd
  refine ⟨⟨xs, v, hq, hv⟩, fun x H1 y => ?_⟩
  obtain ⟨e1, y⟩ := y
  subst e1
  have e2 := y xs hq
  rw [hv] at e2
  cases e2
  exact ⟨Same.refl _, f', rv, fun b m => ⟨_, List.mem_cons_self, s' b m⟩⟩
theorem itOk_range {K : PySem.W.Frag} {lo : Int} {n : Nat} : ItOk K (Itr lo n) ((List.range n).map fun i : Nat => D.int (lo + (i : Int))) [] := by
  intro H i _
  refine ⟨fun d hd => ?_, fun hl => ?_⟩
  · rw [List.getElem?_map] at hd
    by_cases hi : i < n
    · rw [List.getElem?_range hi] at hd
      cases hd
      refine ⟨hi, fun x H1 y => ?_⟩
      obtain ⟨e1, e2⟩ := y
      subst e1 e2
      exact ⟨Same.refl _, [], .int _, fun b m => nomatch m⟩
    · rw [List.getElem?_eq_none (by simpa using hi)] at hd
      cases hd
  · rw [List.length_map, List.length_range] at hl
    exact hl
theorem TagOk.over {K : PySem.W.Frag} {H0 : Hp} {S : List Addr} {z : Addr → Option Nat} {held : List Held} {ρ : Rho} {σ : St} {H : Hp} {t : Tag} {fp : List Addr} (ok : Ok K H0 S z held ρ σ H) (g : TagOk z H t fp) : ∀ a ∈ fp, ∀ j, z a = some j → ∃ o, t = .sh o ∧ j ∈ o := by
  intro a m j q
  cases t with
  | sh o => exact ⟨o, rfl, g a m j q⟩
  | own => obtain ⟨⟨o, w⟩, _⟩ := ok.zd a j q; rw [g.2 a m] at w; cases w
  | lk => obtain ⟨⟨o, w⟩, _⟩ := ok.zd a j q; rw [g.2 a m] at w; cases w
theorem fi_seq {l : Expr} {f : EF} (hl : FP X l f) : FI X tg l (iSeqF f) := by
  obtain ⟨t, p, q⟩ := hl
  refine ⟨_, pi_seq p, fun H0 S z held ρ σ H R ds tg ok e k => ?_⟩
  unfold iSeqF at e
  cases h : f ρ with
  | none => rw [h] at e; cases e
  | some w =>
    obtain ⟨d, tg'⟩ := w
    rw [h] at e
    cases d with
    | lst es =>
      cases e
      refine q H0 S z held ρ σ H _ _ _ ok h fun H1 v fp s1 r1 g1 => ?_
      obtain ⟨a, xs, f, rfl, hq, rs, sub⟩ := r1.lst_of
      exact ⟨a, rfl, .inl ⟨⟨xs, hq⟩, k H1 _ [⟨.lst ds, .ref a, fp⟩] s1 (fun h m => by cases List.mem_singleton.mp m; exact ⟨r1, g1.over ok⟩) itOk_list⟩⟩
    | fls es =>
      cases e
      refine q H0 S z held ρ σ H _ _ _ ok h fun H1 v fp s1 r1 g1 => ?_
      obtain ⟨a, xs, rfl, hq, rs⟩ := r1.fls_of
      exact ⟨a, rfl, .inl ⟨⟨xs, hq⟩, k H1 _ [⟨.fls ds, .ref a, fp⟩] s1 (fun h m => by cases List.mem_singleton.mp m; exact ⟨r1, g1.over ok⟩) itOk_fls⟩⟩
    | tup es =>
      cases e
      refine q H0 S z held ρ σ H _ _ _ ok h fun H1 v fp s1 r1 g1 => ?_
      obtain ⟨a, xs, rfl, hq, rs⟩ := r1.tup_of
      exact ⟨a, rfl, .inr ⟨⟨xs, hq⟩, k H1 _ [⟨.tup ds, .ref a, fp⟩] s1 (fun h m => by cases List.mem_singleton.mp m; exact ⟨r1, g1.over ok⟩) itOk_tup⟩⟩
    | _ => cases e
def small (i : Int) : Bool := decide (-(2 ^ 62) ≤ i) && decide (i < 2 ^ 62)
def iR1 (g : EF) : IF := fun ρ => match g ρ with
  | some (.int j, _) => if small j = true then some ((List.range j.toNat).map fun i : Nat => D.int (0 + (i : Int)), .own) else none
  | _ => none
def iR2 (f g : EF) : IF := fun ρ => match f ρ, g ρ with
  | some (.int i, _), some (.int j, _) => if (small i && small j) = true then some ((List.range (j - i).toNat).map fun k : Nat => D.int (i + (k : Int)), .own) else none
  | _, _ => none
theorem small_of {i : Int} (h : small i = true) : -(2 ^ 62) ≤ i ∧ i < 2 ^ 62 := by
  obtain ⟨a, b⟩ := (Bool.and_eq_true _ _).mp h
  exact ⟨of_decide_eq_true a, of_decide_eq_true b⟩
theorem fi_range1 {a : Expr} {g : EF} {p pos : Pos} (hm : X.mg "range" = none) (ha : FP X a g) (hg : Gl X "range" := by rfl) (hs : starEach [a] X.env = [(false, eval a X.env)] := by rfl) : FI X tg (.Call (.Name "range" p) [a] [] pos) (iR1 g) := by
  obtain ⟨t, pa, q⟩ := ha
  refine ⟨_, pi_range1 hg hm (pa_cons pa pa_nil hs) hs, fun H0 S z held ρ σ H R ds tg ok e k => ?_⟩
  unfold iR1 at e
  cases h : g ρ with
  | none => rw [h] at e; cases e
  | some w =>
    obtain ⟨d, tg'⟩ := w
    rw [h] at e
    cases d with
    | int j =>
      dsimp only at e
      by_cases hj : small j = true
      · rw [if_pos hj] at e
        cases e
        refine q H0 S z held ρ σ H _ _ _ ok h fun H1 v fp s1 r1 g1 => ?_
        cases r1
        exact ⟨j, rfl, (small_of hj).1, (small_of hj).2, k H1 _ [] s1 (fun h m => nomatch m) itOk_range⟩
      · rw [if_neg hj] at e; cases e
    | _ => cases e
theorem fi_range2 {a b : Expr} {f g : EF} {p pos : Pos} (hm : X.mg "range" = none) (ha : FP X a f) (hb : FP X b g) (hg : Gl X "range" := by rfl) (hs : starEach [a, b] X.env = [(false, eval a X.env), (false, eval b X.env)] := by rfl) (hs2 : starEach [b] X.env = [(false, eval b X.env)] := by rfl) :
    FI X tg (.Call (.Name "range" p) [a, b] [] pos) (iR2 f g) := by
  obtain ⟨t, pa, q⟩ := ha
  obtain ⟨t', pb, q'⟩ := hb
  refine ⟨_, pi_range2 hg hm (pa_cons pa (pa_cons pb pa_nil hs2) (by rw [hs, hs2])) hs hs2, fun H0 S z held ρ σ H R ds tg ok e k => ?_⟩
  unfold iR2 at e
  cases h : f ρ with
  | none => rw [h] at e; cases e
  | some w =>
    obtain ⟨d, tg'⟩ := w
    cases h2 : g ρ with
    | none => rw [h, h2] at e; cases d <;> cases e
    | some w =>
      obtain ⟨d2, tg2⟩ := w
      rw [h, h2] at e
      cases d with
      | int i =>
        cases d2 with
        | int j =>
          dsimp only at e
          by_cases hj : (small i && small j) = true
          · rw [if_pos hj] at e
            cases e
            obtain ⟨si, sj⟩ := (Bool.and_eq_true _ _).mp hj
            refine q H0 S z held ρ σ H _ _ _ ok h fun H1 v fp s1 r1 g1 => ?_
            cases r1
            refine q' H0 S z held ρ σ H1 _ _ _ (ok.same s1) h2 fun H2 v fp s2 r2 g2 => ?_
            cases r2
            exact ⟨i, j, rfl, ⟨(small_of si).1, (small_of si).2, (small_of sj).1, (small_of sj).2⟩, k H2 _ [] (s1.trans s2) (fun h m => nomatch m) itOk_range⟩
          · rw [if_neg hj] at e; cases e
        | _ => cases e
      | _ => cases e
end
end L2.Ev
namespace L2.Ev
open PySem PySem.Spec PyProof.Rows
def ovr : Tag → List Nat
  | .sh o => o
  | _ => []
def itag (t : Tag) : Tag := .sh (ovr t)
def ownAt (ρ : Rho) (j : Nat) : Bool := match ρ[j]? with
  | some (some (_, .own)) => true
  | _ => false
def ownsIn (o : List Nat) (ρ : Rho) : List Nat := o.filter (ownAt ρ)
def lockT : Tag → Tag
  | .own => .lk
  | t => t
def unlockT : Tag → Tag
  | .lk => .own
  | t => t
def onT (f : Tag → Tag) : Slot → Slot
  | some (d, t) => some (d, f t)
  | none => none
def lockS : List Nat → Rho → Rho
  | [], ρ => ρ
  | j :: r, ρ => lockS r (ρ.modify j (onT lockT))
def unlockS : List Nat → Rho → Rho
  | [], ρ => ρ
  | j :: r, ρ => unlockS r (ρ.modify j (onT unlockT))
def loopF (g : GF) (t : Tag) (f : SF) : List D → SF
  | [], ρ => some (.nx ρ)
  | d :: ds, ρ => match g d t ρ with
    | none => none
    | some ρ1 => match f ρ1 with
      | some (.nx ρ2) => loopF g t f ds ρ2
      | some (.ct ρ2) => loopF g t f ds ρ2
      | some (.bk ρ2) => some (.nx ρ2)
      | some (.rt r) => some (.rt r)
      | none => none
def sFor (it : IF) (g : GF) (f : SF) : SF := fun ρ => match it ρ with
  | none => none
  | some (ds, t) => match loopF g (itag t) f ds (lockS (ownsIn (ovr t) ρ) ρ) with
    | some (.nx ρ') => some (.nx (unlockS (ownsIn (ovr t) ρ) ρ'))
    | some (.rt d) => some (.rt d)
    | _ => none
theorem lockS_at : ∀ {ks : List Nat} {ρ : Rho} {i : Nat} {d : D} {t : Tag}, (lockS ks ρ)[i]? = some (some (d, t)) → ∃ t', ρ[i]? = some (some (d, t')) ∧ (t = t' ∨ (t' = .own ∧ t = .lk)) ∧ (i ∈ ks → t ≠ .own)
  | [], ρ, i, d, t, h => ⟨t, h, .inl rfl, fun m => nomatch m⟩
  | j :: r, ρ, i, d, t, h => by
    obtain ⟨t1, h1, h2, h3⟩ := lockS_at (ks := r) h
    rw [List.getElem?_modify] at h1
    cases e : ρ[i]? with
    | none => rw [e] at h1; cases h1
    | some s =>
      rw [e] at h1
      have h1' : (if j = i then onT lockT s else s) = some (d, t1) := Option.some.inj h1
      by_cases hj : j = i
      · rw [if_pos hj] at h1'
        cases s with
        | none => cases h1'
        | some p =>
          obtain ⟨d0, t0⟩ := p
          cases h1'
          refine ⟨t0, rfl, ?_, fun _ => ?_⟩
          · rcases h2 with h2 | ⟨h2, h2'⟩
            · cases t0 <;> first | exact .inl h2 | exact .inr ⟨rfl, h2⟩
            · cases t0 <;> cases h2
          · rcases h2 with h2 | ⟨h2, h2'⟩
            · rw [h2]; cases t0 <;> (intro z; cases z)
            · rw [h2']; intro z; cases z
      · rw [if_neg hj] at h1'
        subst h1'
        refine ⟨t1, rfl, h2, fun m => ?_⟩
        rcases List.mem_cons.mp m with z | z
        · exact absurd z.symm hj
        · exact h3 z
theorem lockS_len : ∀ {ks : List Nat} {ρ : Rho}, (lockS ks ρ).length = ρ.length
  | [], _ => rfl
  | _ :: r, ρ => (lockS_len (ks := r)).trans (List.length_modify ..)
theorem unlockS_len : ∀ {ks : List Nat} {ρ : Rho}, (unlockS ks ρ).length = ρ.length
  | [], _ => rfl
  | _ :: r, ρ => (unlockS_len (ks := r)).trans (List.length_modify ..)
theorem unlockS_at : ∀ {ks : List Nat} {ρ : Rho} {i : Nat} {d : D} {t : Tag}, (unlockS ks ρ)[i]? = some (some (d, t)) → ∃ t', ρ[i]? = some (some (d, t')) ∧ (t = t' ∨ (t' = .lk ∧ t = .own ∧ i ∈ ks))
  | [], ρ, i, d, t, h => ⟨t, h, .inl rfl⟩
  | j :: r, ρ, i, d, t, h => by
    obtain ⟨t1, h1, h2⟩ := unlockS_at (ks := r) h
    rw [List.getElem?_modify] at h1
    cases e : ρ[i]? with
    | none => rw [e] at h1; cases h1
    | some s =>
      rw [e] at h1
      have h1' : (if j = i then onT unlockT s else s) = some (d, t1) := Option.some.inj h1
      by_cases hj : j = i
      · rw [if_pos hj] at h1'
        cases s with
        | none => cases h1'
        | some p =>
          obtain ⟨d0, t0⟩ := p
          cases h1'
          refine ⟨t0, rfl, ?_⟩
          rcases h2 with h2 | ⟨h2, h2', h3⟩
          · cases t0 <;> first | exact .inl h2 | exact .inr ⟨rfl, h2, by rw [hj]; exact List.mem_cons_self⟩
          · cases t0 <;> cases h2
      · rw [if_neg hj] at h1'
        subst h1'
        refine ⟨t1, rfl, ?_⟩
        rcases h2 with h2 | ⟨h2, h2', h3⟩
        · exact .inl h2
        · exact .inr ⟨h2, h2', List.mem_cons_of_mem _ h3⟩
def heldAt (z : Addr → Option Nat) (hv : List Hv) : List Held := hv.map fun h => ⟨h.d, h.v, h.fp, z⟩
def rezone (z : Addr → Option Nat) (held : List Held) : List Held := held.map fun h => { h with z0 := z }
section
variable {K : PySem.W.Frag} {H0 : Hp} {S : List Addr} {z : Addr → Option Nat} {held : List Held} {ρ : Rho} {σ : St} {H : Hp}
theorem Ok.begin {hv : List Hv} {t : Tag} (ok : Ok K H0 S z held ρ σ H) (hh : ∀ h ∈ hv, Rep K H h.d h.v h.fp ∧ ∀ a ∈ h.fp, ∀ j, z a = some j → ∃ o, t = .sh o ∧ j ∈ o) :
    Ok K H0 S z (heldAt z hv ++ rezone z held) (lockS (ownsIn (ovr t) ρ) ρ) σ H := by
  refine ⟨fun i d tg e => ?_, fun p m => ?_, ok.zd, ok.en, by rw [lockS_len]; exact ok.ln⟩
  · obtain ⟨t', e', h, _⟩ := lockS_at e
    obtain ⟨v, fp, a, b, c⟩ := ok.sl i d t' e'
    refine ⟨v, fp, a, b, ?_⟩
    rcases h with h | ⟨h, h'⟩
    · subst h; exact c
    · subst h h'; exact c
  · have lockNo : ∀ j, NoOwn ρ j → NoOwn (lockS (ownsIn (ovr t) ρ) ρ) j := fun j n d e => by
      obtain ⟨t', e', h, _⟩ := lockS_at e
      rcases h with h | ⟨h, h'⟩
      · subst h; exact n d e'
      · cases h'
    rcases List.mem_append.mp m with m | m
    · obtain ⟨h, hm, rfl⟩ := List.mem_map.mp m
      refine ⟨(hh h hm).1, fun a ha j q => ⟨q, fun d e => ?_⟩⟩
      obtain ⟨o, rfl, hj⟩ := (hh h hm).2 a ha j q
      obtain ⟨t', e', h', n⟩ := lockS_at e
      rcases h' with h' | ⟨h', h''⟩
      · subst h'
        exact n (List.mem_filter.mpr ⟨hj, by unfold ownAt; rw [e']⟩) rfl
      · cases h''
    · obtain ⟨h, hm, rfl⟩ := List.mem_map.mp m
      obtain ⟨r, hz⟩ := ok.hl h hm
      exact ⟨r, fun a ha j q => ⟨q, lockNo j (hz a ha j q).2⟩⟩
theorem Ok.fin {hv : List Hv} {t : Tag} {z' : Addr → Option Nat} {ρ' : Rho} {σ' : St} {H' : Hp} (ok : Ok K H0 S z held ρ σ H) (ok' : Ok K H0 S z' (heldAt z hv ++ rezone z held) ρ' σ' H') : Ok K H0 S z' held (unlockS (ownsIn (ovr t) ρ) ρ') σ' H' := by
  refine ⟨fun i d tg e => ?_, fun p m => ?_, ok'.zd, ok'.en, by rw [unlockS_len]; exact ok'.ln⟩
  · obtain ⟨t', e', h⟩ := unlockS_at e
    obtain ⟨v, fp, a, b, c⟩ := ok'.sl i d t' e'
    refine ⟨v, fp, a, b, ?_⟩
    rcases h with h | ⟨h, h', _⟩
    · subst h; exact c
    · subst h h'; exact c
  · obtain ⟨r, hz⟩ := ok'.hl { p with z0 := z } (List.mem_append_right _ (List.mem_map.mpr ⟨p, m, rfl⟩))
    refine ⟨r, fun a ha j q => ?_⟩
    obtain ⟨h1, h2⟩ := hz a ha j q
    have h1 : z a = some j := h1
    obtain ⟨h3, h4⟩ := (ok.hl p m).2 a ha j h1
    refine ⟨h3, fun d e => ?_⟩
    obtain ⟨t', e', h⟩ := unlockS_at e
    rcases h with h | ⟨h, _, hk⟩
    · subst h; exact h2 d e'
    · have ho := (List.mem_filter.mp hk).2
      unfold ownAt at ho
      cases e0 : ρ[j]? with
      | none => rw [e0] at ho; cases ho
      | some s =>
        rw [e0] at ho
        cases s with
        | none => cases ho
        | some p =>
          obtain ⟨d0, t0⟩ := p
          cases t0 <;> first | exact h4 d0 e0 | cases ho
end
section
variable {X : Cx} {pos : Pos}
theorem fs_for {tg iter : Expr} {body : List Stmt} {it : IF} {g : GF} {f : SF} {is : List Nat} (hc : X.calm = true) (hi : FI X tg iter it) (hg : FG X tg g is) (hb : FS X body f) (hp : PassesOwn (model X.prog X.w) X.A X.env X.xe := by exact PassesOwn.never)
    (hs : ∀ x, foldedSetIterable iter X.env x = pure x := by intro _; rfl) : FS1 X (.For tg iter body [] pos) (sFor it g f) := by
  obtain ⟨wi, pi, si⟩ := hi
  obtain ⟨tgt, pg, sg⟩ := hg
  obtain ⟨tb, pb, sb⟩ := hb
  refine ⟨_, ps_for hp hc pi pg pb hs, fun H0 S z held ρ σ H E o ok e k => ?_⟩
  unfold sFor at e
  cases h : it ρ with
  | none => rw [h] at e; cases e
  | some w =>
    obtain ⟨ds, t⟩ := w
    rw [h] at e
    dsimp only at e
    refine si H0 S z held ρ σ H _ ds t ok h fun H1 J hv s1 hh itok => ?_
    cases ho : loopF g (itag t) f ds (lockS (ownsIn (ovr t) ρ) ρ) with
    | none => rw [ho] at e; cases e
    | some out =>
      rw [ho] at e
      have ok1 := ok.same s1
      have ok2 := ok1.begin (t := t) hh
      have fin : ∀ {z' : Addr → Option Nat} {ρ' : Rho} {σ' : St} {H' : Hp}, Ok X.K H0 S z' (heldAt z hv ++ rezone z held) ρ' σ' H' → out = .nx ρ' → E.nx σ' H' := fun {z' ρ' σ' H'} ok' eo => by
        subst eo
        cases e
        exact k z' σ' H' (ok1.fin (t := t) ok')
      refine ⟨fun i m σ' H' => m = ds.length - i ∧ ∃ z' ρ', Ok X.K H0 S z' (heldAt z hv ++ rezone z held) ρ' σ' H' ∧ loopF g (itag t) f (ds.drop i) ρ' = some out, ⟨ds.length, rfl, z, _, ok2, ho⟩, ?_⟩
      rintro i m σ' H' ⟨rfl, z', ρ', ok', e'⟩
      have hH : ∀ h ∈ hv, Rep X.K H' h.d h.v h.fp := fun h m => (ok'.hl _ (List.mem_append_left _ (List.mem_map.mpr ⟨h, m, rfl⟩))).1
      obtain ⟨go, stop⟩ := itok H' i hH
      by_cases hl : ds.length ≤ i
      · refine .inl ⟨stop hl, ?_⟩
        rw [List.drop_eq_nil_of_le hl] at e'
        cases e'
        exact fin ok' rfl
      · have hlt : i < ds.length := Nat.lt_of_not_le hl
        rw [List.drop_eq_getElem_cons hlt] at e'
        obtain ⟨g1, g2⟩ := go ds[i] (List.getElem?_eq_getElem hlt)
        refine .inr ⟨g1, fun σ2 H2 => ∃ z' ρ', Ok X.K H0 S z' (heldAt z hv ++ rezone z held) ρ' σ2 H2 ∧ loopF g (itag t) f (ds.drop (i + 1)) ρ' = some out, fun σ2 H2 hn => ⟨ds.length - (i + 1), by omega, rfl, hn⟩, fun x H2 y => ?_⟩
        obtain ⟨s2, fp, r2, sub⟩ := g2 x H2 y
        unfold loopF at e'
        cases hg1 : g ds[i] (itag t) ρ' with
        | none => rw [hg1] at e'; cases e'
        | some ρ1 =>
          rw [hg1] at e'
          dsimp only at e'
          refine sg H0 S z' _ ρ' σ' H' H2 x ds[i] (itag t) fp _ ρ1 ok' s2 r2 (fun a ha j q => ?_) hg1 fun z2 σ2 ok3 _ => ?_
          · obtain ⟨h, hm, ha'⟩ := sub a ha
            obtain ⟨_, hz⟩ := ok'.hl _ (List.mem_append_left _ (List.mem_map.mpr ⟨h, hm, rfl⟩))
            obtain ⟨q0, _⟩ := hz a ha' j q
            obtain ⟨o', rfl, hj⟩ := (hh h hm).2 a ha' j q0
            exact hj
          · cases hf : f ρ1 with
            | none => rw [hf] at e'; cases e'
            | some o1 =>
              rw [hf] at e'
              refine sb H0 S z2 _ ρ1 σ2 H2 _ o1 ok3 hf ?_
              cases o1 with
              | nx ρ2 => exact fun z3 σ3 H3 ok4 => ⟨z3, ρ2, ok4, e'⟩
              | ct ρ2 => exact fun z3 σ3 H3 ok4 => ⟨z3, ρ2, ok4, e'⟩
              | bk ρ2 =>
                cases e'
                exact fun z3 σ3 H3 ok4 => fin ok4 rfl
              | rt d =>
                cases e'
                cases e
                exact k
def sWhile (c : TF) (f : SF) : Nat → SF
  | 0, _ => none
  | n + 1, ρ => match c ρ with
    | some false => some (.nx ρ)
    | some true => match f ρ with
      | some (.nx ρ') => sWhile c f n ρ'
      | some (.ct ρ') => sWhile c f n ρ'
      | some (.bk ρ') => some (.nx ρ')
      | some (.rt d) => some (.rt d)
      | none => none
    | none => none
theorem fs_while (n : Nat) {c : Expr} {body : List Stmt} {tc : TF} {f : SF} (hc : FT X c tc) (hb : FS X body f) (hp : PassesOwn (model X.prog X.w) X.A X.env X.xe := by exact PassesOwn.never) : FS1 X (.While c body [] pos) (sWhile tc f n) := by
  obtain ⟨t, p, q⟩ := hc
  obtain ⟨tb, pb, qb⟩ := hb
  refine ⟨_, ps_while hp p pb, fun H0 S z held ρ σ H E o ok e k => ?_⟩
  refine ⟨fun m σ' H' => ∃ z' ρ', Ok X.K H0 S z' held ρ' σ' H' ∧ sWhile tc f m ρ' = some o, ⟨n, z, ρ, ok, e⟩, ?_⟩
  rintro m σ' H' ⟨z', ρ', ok', e'⟩
  cases m with
  | zero => cases e'
  | succ m =>
    unfold sWhile at e'
    cases hc : tc ρ' with
    | none => rw [hc] at e'; cases e'
    | some b =>
      rw [hc] at e'
      refine q H0 S z' held ρ' σ' H' _ b ok' hc fun H1 s1 => ?_
      cases b with
      | false =>
        cases e'
        rw [if_neg Bool.false_ne_true]
        exact k z' σ' H1 (ok'.same s1)
      | true =>
        rw [if_pos rfl]
        dsimp only at e'
        cases hf : f ρ' with
        | none => rw [hf] at e'; cases e'
        | some o1 =>
          rw [hf] at e'
          refine ⟨fun σ2 H2 => ∃ z2 ρ2, Ok X.K H0 S z2 held ρ2 σ2 H2 ∧ sWhile tc f m ρ2 = some o, fun σ2 H2 hn => ⟨m, Nat.lt_succ_self m, hn⟩, ?_⟩
          refine qb H0 S z' held ρ' σ' H1 _ o1 (ok'.same s1) hf ?_
          cases o1 with
          | nx ρ2 => exact fun z3 σ3 H3 ok4 => ⟨z3, ρ2, ok4, e'⟩
          | ct ρ2 => exact fun z3 σ3 H3 ok4 => ⟨z3, ρ2, ok4, e'⟩
          | bk ρ2 =>
            cases e'
            exact fun z3 σ3 H3 ok4 => k z3 σ3 H3 ok4
          | rt d =>
            cases e'
            exact k
end
end L2.Ev
namespace L2.Ev
open PySem PySem.Spec PyProof.Rows
def teS (K : PySem.W.Frag) (f : EF) : TE := fun σ H Q => ∃ H0 S z held ρ d tg, Ok K H0 S z held ρ σ H ∧ f ρ = some (d, tg) ∧ ∀ H' v fp, Same H H' → Rep K H' d v fp → TagOk z H tg fp → Q v H'
def ttS (K : PySem.W.Frag) (f : TF) : TT := fun σ H Q => ∃ H0 S z held ρ b, Ok K H0 S z held ρ σ H ∧ f ρ = some b ∧ ∀ H', Same H H' → Q b H'
def tgS (K : PySem.W.Frag) (g : GF) (is : List Nat) : TG := fun v σ H1 Q => ∃ H0 S z held ρ H d tag fp ρ', Ok K H0 S z held ρ σ H ∧ Same H H1 ∧ Rep K H1 d v fp ∧ TagOk z H tag fp ∧ g d tag ρ = some ρ' ∧
  ∀ z' σ', Ok K H0 S z' held ρ' σ' H1 → (σ'.length = σ.length ∧ ∀ j, j ∉ is → σ'[j]? = σ[j]?) → Q σ' H1
section
variable {X : Cx}
theorem FP.pe {e : Expr} {f : EF} (h : FP X e f) : PE X e (teS X.K f) := by
  obtain ⟨t, p, q⟩ := h
  intro pins s σ H Q I ⟨H0, S, z, held, ρ, d, tg, ok, e, k⟩
  exact p pins s σ H Q I (q H0 S z held ρ σ H Q d tg ok e k)
theorem FT.pt {e : Expr} {f : TF} (h : FT X e f) : PT X e (ttS X.K f) := by
  obtain ⟨t, p, q⟩ := h
  intro pins s σ H Q I ⟨H0, S, z, held, ρ, b, ok, e, k⟩
  exact p pins s σ H Q I (q H0 S z held ρ σ H Q b ok e k)
theorem FG.pg {e : Expr} {g : GF} {is : List Nat} (h : FG X e g is) : PG X e (tgS X.K g is) := by
  obtain ⟨t, p, q⟩ := h
  intro pins s σ H1 v u Q I r ⟨H0, S, z, held, ρ, H, d, tag, fp, ρ', ok, sm, rp, tk, e, k⟩
  exact p pins s σ H1 v u Q I r (q H0 S z held ρ σ H H1 v d tag fp Q ρ' ok sm rp tk e k)
end
def FTs (X : Cx) (ifs : List Expr) (f : TF) : Prop := PTs X ifs (ttS X.K f)
def tTrue : TF := fun _ => some true
theorem fts_nil {X : Cx} : FTs X [] tTrue := by
  intro pins s σ H Q I ⟨H0, S, z, held, ρ, b, ok, e, k⟩
  cases e
  exact wpAny_tests_nil ⟨H, I, k H (Same.refl H)⟩
theorem fts_one {X : Cx} {c : Expr} {f : TF} (h : FT X c f) : FTs X [c] f := pts_one h.pt
def iniR (js : List (Option Nat)) (ρ : Rho) : Rho := js.map fun j => match j with
  | none => none
  | some j => match ρ[j]? with
    | some (some (d, _)) => some (d, .sh [])
    | _ => none
def compE (g : GF) (tt : TF) (te : EF) (ρ : Rho) (d : D) : Option (Option D) := match g d (.sh []) ρ with
  | none => none
  | some ρ1 => match tt ρ1 with
    | none => none
    | some false => some none
    | some true => match te ρ1 with
      | none => none
      | some (e, t) => if isOwn t = true then some (some e) else if imm e = true then some (some e) else none
def compF (h : D → Option (Option D)) : List D → Option (List D)
  | [] => some []
  | d :: ds => match h d with
    | none => none
    | some none => compF h ds
    | some (some e) => match compF h ds with
      | none => none
      | some es => some (e :: es)
def eComp (js : List (Option Nat)) (it : IF) (g : GF) (tt : TF) (te : EF) : EF := fun ρ => match it ρ with
  | none => none
  | some (ds, _) => if ds.length < sizeLine then (compF (compE g tt te (iniR js ρ)) ds).map fun es => (.lst es, .own) else none
theorem compF_ok {h : D → Option (Option D)} {k : D → Option D} : ∀ {ds : List D}, (∀ d ∈ ds, h d = some (k d)) → compF h ds = some (ds.filterMap k)
  | [], _ => rfl
  | d :: ds, e => by
    unfold compF
    rw [e d List.mem_cons_self, compF_ok fun x m => e x (List.mem_cons_of_mem _ m), List.filterMap_cons]
    cases k d <;> rfl
section
variable {X : Cx} {pos : Pos}
theorem comp_read {wi : TI} {it : IF} {js : List (Option Nat)} {g : GF} {tt : TF} {te : EF} {is : List Nat} (hjs : ∀ i ∈ is, js[i]? = some none)
    (si : ∀ (H0 : Hp) (S : List Addr) (z : Addr → Option Nat) (held : List Held) (ρ : Rho) (σ : St) (H : Hp) (R : It → Hp → Prop) (ds : List D) (t : Tag),
      Ok X.K H0 S z held ρ σ H → it ρ = some (ds, t) → (∀ H1 J hv, Same H H1 → (∀ h ∈ hv, Rep X.K H1 h.d h.v h.fp ∧ ∀ a ∈ h.fp, ∀ j, z a = some j → ∃ o, t = .sh o ∧ j ∈ o) → ItOk X.K J ds hv → R J H1) → wi σ H R)
    (H0 : Hp) (S : List Addr) (z : Addr → Option Nat) (held : List Held) (ρ : Rho) (σ : St) (H : Hp) (Q : VK) (d : D) (tg : Tag) (ok : Ok X.K H0 S z held ρ σ H) (e : eComp js it g tt te ρ = some (d, tg))
    (k : ∀ H' v fp, Same H H' → Rep X.K H' d v fp → TagOk z H tg fp → Q v H') : tComp wi js (tgS X.K g is) (ttS X.K tt) (teS X.K te) σ H Q := by
  unfold eComp at e
  cases h : it ρ with
  | none => rw [h] at e; cases e
  | some w =>
    obtain ⟨ds, t⟩ := w
    rw [h] at e
    dsimp only at e
    by_cases hz : ds.length < sizeLine
    · rw [if_pos hz] at e
      cases hcf : compF (compE g tt te (iniR js ρ)) ds with
      | none => rw [hcf] at e; cases e
      | some es =>
        rw [hcf] at e
        cases e
        refine si H0 S z held ρ σ H _ ds t ok h fun H1 J hv s1 hh itok Dd hDd => ?_
        have ok1 := ok.same s1
        have inner : ∀ (σ' : St) (H2 : Hp), Same H1 H2 → (∃ o, H2 Dd = some o) → σ'.length = js.length → (∀ j, j ∉ is → σ'[j]? = (iniC js σ)[j]?) → Ok X.K H1 [] (fun a => if a = Dd then some js.length else none) (heldAt (fun _ => none) hv) (iniR js ρ) σ' H2 := by
          intro σ' H2 s2 hoD hlen hag
          have nD : ∀ {a : Addr} {o : HO}, H1 a = some o → a ≠ Dd := fun e => ne_of_none e hDd
          refine ⟨fun i d t e => ?_, fun p m => ?_, fun a j e => ?_, fun a o e _ => s2 _ _ e, by unfold iniR; rw [List.length_map, hlen]⟩
          · unfold iniR at e
            rw [List.getElem?_map] at e
            cases hj : js[i]? with
            | none => rw [hj] at e; cases e
            | some o =>
              rw [hj] at e
              cases o with
              | none => cases e
              | some j =>
                have e : (match ρ[j]? with | some (some (d, _)) => some (d, Tag.sh []) | _ => none) = some (d, t) := Option.some.inj e
                cases hr : ρ[j]? with
                | none => rw [hr] at e; cases e
                | some s =>
                  rw [hr] at e
                  cases s with
                  | none => cases e
                  | some p =>
                    obtain ⟨d0, t0⟩ := p
                    have e1 : d0 = d ∧ Tag.sh [] = t := Prod.mk.inj (Option.some.inj e)
                    obtain ⟨rfl, rfl⟩ := e1
                    obtain ⟨v, fp, hs, r, _⟩ := ok1.sl j d0 t0 hr
                    have hi : i ∉ is := fun m => by rw [hjs i m] at hj; cases hj
                    refine ⟨v, fp, ?_, r.same s2, fun a m q e => ?_⟩
                    · rw [hag i hi]
                      unfold iniC
                      rw [List.getElem?_map, hj]
                      show some ((σ[j]?).join) = some (some v)
                      rw [hs]; rfl
                    · obtain ⟨o, w, _⟩ := r.dom a m
                      dsimp only at e
                      rw [if_neg (nD w)] at e
                      cases e
          · obtain ⟨h, hm, rfl⟩ := List.mem_map.mp m
            refine ⟨(hh h hm).1.same s2, fun a ha q e => ?_⟩
            obtain ⟨o, w, _⟩ := (hh h hm).1.dom a ha
            rw [if_neg (nD w)] at e
            cases e
          · by_cases w : a = Dd
            · rw [w]; exact ⟨hoD, .inl hDd⟩
            · rw [if_neg w] at e; cases e
        refine ⟨fun i m σ' H' => m = ds.length - i ∧ Same H1 H' ∧ σ'.length = js.length ∧ (∀ j, j ∉ is → σ'[j]? = (iniC js σ)[j]?) ∧ ∃ done rest vs fp, H' Dd = some (.lst vs) ∧ Reps X.K H' done vs fp ∧ fp.Nodup ∧ (∀ a ∈ fp, H1 a = none ∧ a ≠ Dd) ∧
          compF (compE g tt te (iniR js ρ)) (ds.drop i) = some rest ∧ done ++ rest = es ∧ done.length ≤ i, ?_, ?_⟩
        · refine ⟨ds.length, rfl, fun b o e => by rw [upd_ne (ne_of_none e hDd)]; exact e, by unfold iniC; rw [List.length_map], fun _ _ => rfl, [], es, [], [], upd_same, .nil, List.nodup_nil, (fun a m => nomatch m), hcf, rfl, Nat.le_refl _⟩
        · rintro i m σ' H' ⟨rfl, sH, hlen, hag, done, rest, vs, fp, hD, rs, nd, fr, hr, rfl, hle⟩
          obtain ⟨go, stop⟩ := itok H' i fun h m => (hh h m).1.same sH
          by_cases hl : ds.length ≤ i
          · refine .inl ⟨stop hl, ?_⟩
            rw [List.drop_eq_nil_of_le hl] at hr
            cases hr
            rw [List.append_nil] at k
            refine k H' (.ref Dd) (Dd :: fp) (s1.trans sH) (.lst hD rs) ⟨List.nodup_cons.mpr ⟨fun m => (fr Dd m).2 rfl, nd⟩, fun a m => ?_⟩
            rcases List.mem_cons.mp m with e | m
            · rw [e]; exact s1.free hDd
            · exact s1.free (fr a m).1
          · have hlt : i < ds.length := Nat.lt_of_not_le hl
            rw [List.drop_eq_getElem_cons hlt] at hr
            obtain ⟨g1, g2⟩ := go ds[i] (List.getElem?_eq_getElem hlt)
            refine .inr ⟨g1, fun x H2 y => ?_⟩
            obtain ⟨s2, fp2, r2, sub⟩ := g2 x H2 y
            have ok2 := inner σ' H' sH ⟨_, hD⟩ hlen hag
            unfold compF at hr
            cases hE : compE g tt te (iniR js ρ) ds[i] with
            | none => rw [hE] at hr; cases hr
            | some oe =>
              rw [hE] at hr
              unfold compE at hE
              cases hg1 : g ds[i] (.sh []) (iniR js ρ) with
              | none => rw [hg1] at hE; cases hE
              | some ρ1 =>
                rw [hg1] at hE
                dsimp only at hE
                have tko : TagOk (fun a => if a = Dd then some js.length else none) H' (.sh []) fp2 := fun a m j e => by
                  obtain ⟨h, hm, ha⟩ := sub a m
                  obtain ⟨o, w, _⟩ := (hh h hm).1.dom a ha
                  dsimp only at e
                  rw [if_neg (ne_of_none w hDd)] at e
                  cases e
                refine ⟨H1, [], _, _, iniR js ρ, H', ds[i], .sh [], fp2, ρ1, ok2, s2, r2, tko, hg1, fun z3 σ3 ok3 ag3 => ?_⟩
                have len3 : σ3.length = js.length := ag3.1.trans hlen
                have agc : ∀ j, j ∉ is → σ3[j]? = (iniC js σ)[j]? := fun j hj => (ag3.2 j hj).trans (hag j hj)
                cases ht : tt ρ1 with
                | none => rw [ht] at hE; cases hE
                | some b =>
                  rw [ht] at hE
                  refine ⟨H1, [], z3, _, ρ1, b, ok3, ht, fun H4 s4 => ?_⟩
                  have s14 : Same H1 H4 := (sH.trans s2).trans s4
                  have s04 : Same H' H4 := s2.trans s4
                  cases b with
                  | false =>
                    cases hE
                    refine iteF ?_
                    exact ⟨ds.length - (i + 1), by omega, rfl, s14, len3, agc, done, rest, vs, fp, s04 _ _ hD, rs.same s04, nd, fr, hr, rfl, Nat.le_succ_of_le hle⟩
                  | true =>
                    refine iteT ?_
                    dsimp only at hE
                    cases hte : te ρ1 with
                    | none => rw [hte] at hE; cases hE
                    | some w =>
                      obtain ⟨y, ty⟩ := w
                      rw [hte] at hE
                      dsimp only at hE
                      refine ⟨H1, [], z3, _, ρ1, y, ty, ok3.same s4, hte, fun H5 yv fy s5 ry gy => ?_⟩
                      have oe' : oe = some y ∧ fy.Nodup ∧ ∀ a ∈ fy, H4 a = none := by
                        by_cases ho : isOwn ty = true
                        · rw [if_pos ho] at hE
                          cases hE
                          exact ⟨rfl, by cases ty <;> first | exact gy | cases ho⟩
                        · rw [if_neg ho] at hE
                          by_cases hi : imm y = true
                          · rw [if_pos hi] at hE
                            cases hE
                            have hn := ry.imm hi
                            subst hn
                            exact ⟨rfl, List.nodup_nil, fun a m => nomatch m⟩
                          · rw [if_neg hi] at hE; cases hE
                      obtain ⟨rfl, ndy, fry⟩ := oe'
                      dsimp only at hr
                      cases hrest : compF (compE g tt te (iniR js ρ)) (ds.drop (i + 1)) with
                      | none => rw [hrest] at hr; cases hr
                      | some r' =>
                        rw [hrest] at hr
                        cases hr
                        have s05 : Same H' H5 := s04.trans s5
                        have hD5 : H5 Dd = some (.lst vs) := s05 _ _ hD
                        have lv : vs.length < sizeLine := by rw [← rs.length]; omega
                        have im : Imm H5 (upd H5 Dd (.lst (vs ++ [yv]))) := Imm.upd hD5 rfl
                        have n1 : ∀ a ∈ fp ++ fy, a ≠ Dd := fun a m => by
                          rcases List.mem_append.mp m with m | m
                          · exact (fr a m).2
                          · intro e
                            have := fry a m
                            rw [e, s04 _ _ hD] at this; cases this
                        have rs5 : Reps X.K H5 (done ++ [y]) (vs ++ [yv]) (fp ++ fy) := by
                          have q := Reps.append (rs.same s05) (Reps.cons ry .nil)
                          rw [List.append_nil] at q
                          exact q
                        refine ⟨vs, hD5, lv, ds.length - (i + 1), by omega, rfl, fun b o e => ?_, len3, agc, done ++ [y], r', vs ++ [yv], fp ++ fy, upd_same, rs5.frame (fun a m => upd_ne (n1 a m)) im, ?_, fun a m => ?_, hrest, ?_, ?_⟩
                        · rw [upd_ne (ne_of_none e hDd)]
                          exact s5 _ _ (s14 _ _ e)
                        · refine List.nodup_append.mpr ⟨nd, ndy, fun a m b m' e => ?_⟩
                          subst e
                          obtain ⟨o, w, _⟩ := (rs.same s04).dom a m
                          rw [fry a m'] at w; cases w
                        · refine ⟨?_, n1 a m⟩
                          rcases List.mem_append.mp m with m | m
                          · exact (fr a m).1
                          · exact s14.free (fry a m)
                        · rw [List.append_assoc]; rfl
                        · rw [List.length_append, List.length_singleton]; omega
    · rw [if_neg hz] at e; cases e
theorem fp_comp {tg iter elt : Expr} {ifs : List Expr} {sc : Scope} {M : List Str} {js : List (Option Nat)} {it : IF} {g : GF} {tt : TF} {te : EF} {is : List Nat} (S : CompScope X M js sc) (hc : X.calm = true) (hi : FI X tg iter it) (hjs : ∀ i ∈ is, js[i]? = some none)
    (hb : ∀ s3 H3 fp, FG (cxComp X M sc s3 H3 fp) tg g is ∧ FTs (cxComp X M sc s3 H3 fp) ifs tt ∧ FP (cxComp X M sc s3 H3 fp) elt te) (hs : ∀ x, foldedSetIterable iter X.env x = pure x := by intro _; rfl) :
    FP X (.ListComp elt [⟨tg, iter, ifs, 0⟩] sc pos) (eComp js it g tt te) := by
  obtain ⟨wi, pi, si⟩ := hi
  exact ⟨_, pe_comp (g := tgS X.K g is) (tt := ttS X.K tt) (te := teS X.K te) S hc pi (fun s3 H3 fp => ⟨(hb s3 H3 fp).1.pg, (hb s3 H3 fp).2.1, (hb s3 H3 fp).2.2.pe⟩) hs, fun H0 S z held ρ σ H Q d tg ok e k => comp_read hjs si H0 S z held ρ σ H Q d tg ok e k⟩
theorem fs_setC (i : Nat) {y : Str} {tg iter elt : Expr} {ifs : List Expr} {sc : Scope} {py spos : Pos} {M : List Str} {js : List (Option Nat)} {it : IF} {g : GF} {tt : TF} {te : EF} {is : List Nat} (hN : X.N.Nodup) (S : CompScope X M js sc) (hc : X.calm = true) (hi : FI X tg iter it)
    (hjs : ∀ i ∈ is, js[i]? = some none) (hb : ∀ s3 H3 fp, FG (cxComp X M sc s3 H3 fp) tg g is ∧ FTs (cxComp X M sc s3 H3 fp) ifs tt ∧ FP (cxComp X M sc s3 H3 fp) elt te) (hy : X.N[i]? = some y := by rfl) (hl : X.env.scope.names.lookup y = some .local := by rfl)
    (hsw : swapsWith (.ListComp elt [⟨tg, iter, ifs, 0⟩] sc pos) (some (.Name y py)) spos.line X.env = pure true := by rfl) (hs : ∀ x, foldedSetIterable iter X.env x = pure x := by intro _; rfl) :
    FS1 X (.Assign [.Name y py] (.ListComp elt [⟨tg, iter, ifs, 0⟩] sc pos) spos) (sSet i (eComp js it g tt te)) := by
  obtain ⟨wi, pi, si⟩ := hi
  refine ⟨_, ps_setC (i := i) (g := tgS X.K g is) (tt := ttS X.K tt) (te := teS X.K te) hN hy hl S hc pi (fun s3 H3 fp => ⟨(hb s3 H3 fp).1.pg, (hb s3 H3 fp).2.1, (hb s3 H3 fp).2.2.pe⟩) hsw hs, fun H0 S z held ρ σ H E o ok e k => ?_⟩
  unfold sSet at e
  cases h : eComp js it g tt te ρ with
  | none => rw [h] at e; cases e
  | some w =>
    obtain ⟨d, tg⟩ := w
    rw [h] at e
    cases e
    refine comp_read hjs si H0 S z held ρ σ H _ d tg ok h fun H1 v fp s1 r1 g1 => ?_
    exact ok.stored s1 r1 g1 fun z' ok' => k z' _ H1 ok'
end
def iniF (n : Nat) (ds : List D) : Rho := ds.map (fun d => some (d, .sh [])) ++ List.replicate (n - ds.length) none
def runF (n N : Nat) (b : SF) : List D → Option D := fun ds => if ds.length = n then (match b (iniF N ds) with
  | some (.rt d) => some d
  | some (.nx _) => some .non
  | _ => none) else none
section
variable {P : Program} {w : World} {K : PySem.W.Frag} {mg : Str → Option Value} {base : Heap}
theorem fn_F {x qual : Str} {st : Stmt} {f : Addr} {fd : FuncData} {N ps : List Str} {k : Nat} {b : SF} (F : Fun K x qual st f fd) (S : FnScope N ps (defScope st))
    (hb : ∀ (cdv : Value) (A : Around) (outer : List Env) (s : Shared) (H : Hp) (E : XK), Room k (A.deeper (envOfC qual (defScope st) s.heap.objs.size f cdv)) → FS (cxOf CX0 P w K mg base N qual (defScope st) f cdv A outer s H E).nox (defBody st) b) :
    FnOk P w K mg base CX0 (k + 1) f fd ps (spF K (runF ps.length N.length b)) := by
  have lenF : ∀ {ds : List D} {d : D}, runF ps.length N.length b ds = some d → ds.length = ps.length := fun {ds d} e => by
    unfold runF at e
    by_cases h : ds.length = ps.length
    · exact h
    · rw [if_neg h] at e; cases e
  refine F.ok S (fun vs H Q E ⟨ds, fp, d, rs, e, _⟩ => ?_) (fun cdv A outer s H vs Q E hr ⟨ds, fp, d, rs, e, q⟩ => ?_)
  · rw [← rs.length]; exact lenF e
  · obtain ⟨t, p, sd⟩ := hb cdv A outer s H E hr
    refine ⟨t, p, ?_⟩
    have hl := lenF e
    have hlv := rs.length
    have ok : Ok K H [] (fun _ => none) [] (iniF N.length ds) (start N vs) H := by
      refine ⟨fun i d' t' e' => ?_, (fun p m => by cases m), (fun a j e => by cases e), (fun a o e _ => e), ?_⟩
      · unfold iniF at e'
        by_cases hi : i < ds.length
        · rw [List.getElem?_append_left (by rw [List.length_map]; exact hi), List.getElem?_map, List.getElem?_eq_getElem hi] at e'
          cases e'
          obtain ⟨v, f', hv, rv, _⟩ := rs.get (List.getElem?_eq_getElem hi)
          refine ⟨v, f', ?_, rv, fun a _ j e => by cases e⟩
          unfold start
          rw [List.getElem?_append_left (by rw [List.length_map]; omega), List.getElem?_map, hv]
          rfl
        · rw [List.getElem?_append_right (by rw [List.length_map]; omega), List.getElem?_replicate] at e'
          split at e' <;> cases e'
      · unfold iniF start
        rw [List.length_append, List.length_append, List.length_map, List.length_map, List.length_replicate, List.length_replicate, hlv]
    unfold runF at e
    rw [if_pos hl] at e
    cases ho : b (iniF N.length ds) with
    | none => rw [ho] at e; cases e
    | some o =>
      rw [ho] at e
      refine sd H [] (fun _ => none) [] (iniF N.length ds) (start N vs) H _ o ok ho ?_
      cases o with
      | rt d' =>
        cases e
        exact fun H' v fp' en r nd fr => q H' v fp' (fun a o e => en a o e (fun m => nomatch m)) r nd fun a m => (fr a m).resolve_right fun m => nomatch m
      | nx ρ' =>
        cases e
        exact fun z' σ' H' ok' => q H' .non [] (fun a o e => ok'.en a o e (fun m => nomatch m)) .non List.nodup_nil fun a m => nomatch m
      | bk _ => cases e
      | ct _ => cases e
end
end L2.Ev
namespace L2.Ev
open PySem PySem.Spec PyProof.Rows
def iop (f : Int → Int → Int) : D → D → Option D
  | .int i, .int j => some (.int (f i j))
  | _, _ => none
def iopC (C : Int → Int → Bool) (f : Int → Int → Int) : D → D → Option D
  | .int i, .int j => if C i j = true then some (.int (f i j)) else none
  | _, _ => none
def iopB (f : Int → Int → Bool) : D → D → Option D
  | .int i, .int j => some (.bl (f i j))
  | _, _ => none
def cMul (i j : Int) : Bool := (decide (-(2 ^ 64) < i) && decide (i < 2 ^ 64)) || (decide (-(2 ^ 64) < j) && decide (j < 2 ^ 64))
def cPos (_ j : Int) : Bool := decide (0 < j)
def oAdd := iop fun i j => i + j
def oSub := iop fun i j => i - j
def oMul := iopC cMul fun i j => i * j
def oMod := iopC cPos fun i j => i % j
def oLt := iopB fun i j => decide (i < j)
def oLe := iopB fun i j => decide (i ≤ j)
def oGt := iopB fun i j => decide (j < i)
def oGe := iopB fun i j => decide (j ≤ i)
def oEq : D → D → Option D
  | .int i, .int j => some (.bl (i == j))
  | .bl i, .bl j => some (.bl (i == j))
  | .str i, .str j => some (.bl (i == j))
  | .non, .non => some (.bl true)
  | _, _ => none
def oNe : D → D → Option D
  | .int i, .int j => some (.bl (!(i == j)))
  | .bl i, .bl j => some (.bl (!(i == j)))
  | .str i, .str j => some (.bl (!(i == j)))
  | .non, .non => some (.bl false)
  | _, _ => none
def isNon : D → Bool
  | .non => true
  | _ => false
def oIsN : D → D → Option D
  | d, .non => some (.bl (isNon d))
  | _, _ => none
def oNotN : D → D → Option D
  | d, .non => some (.bl (!isNon d))
  | _, _ => none
section
variable {K : PySem.W.Frag}
theorem does_i {g : Int → Int → Int} : Does2 K (rI0 fun i j => .int (g i j)) (iop g) := by
  intro H x y d1 d2 f1 f2 d Q r1 r2 e k
  cases r1 <;> cases r2 <;> cases e
  exact ⟨_, _, rfl, rfl, k H _ (Same.refl H) (.int _)⟩
theorem does_iB {g : Int → Int → Bool} : Does2 K (rI0 fun i j => .bl (g i j)) (iopB g) := by
  intro H x y d1 d2 f1 f2 d Q r1 r2 e k
  cases r1 <;> cases r2 <;> cases e
  exact ⟨_, _, rfl, rfl, k H _ (Same.refl H) (.bl _)⟩
theorem does_iC {C : Int → Int → Prop} {c : Int → Int → Bool} {g : Int → Int → Int} (h : ∀ i j, c i j = true → C i j) : Does2 K (rI C fun i j => .int (g i j)) (iopC c g) := by
  intro H x y d1 d2 f1 f2 d Q r1 r2 e k
  cases r1 with
  | int i =>
    cases r2 with
    | int j =>
      have e : (if c i j = true then some (D.int (g i j)) else none) = some d := e
      by_cases hc : c i j = true
      · rw [if_pos hc] at e
        cases e
        exact ⟨i, j, rfl, rfl, h i j hc, k H _ (Same.refl H) (.int _)⟩
      · rw [if_neg hc] at e; cases e
    | _ => cases e
  | _ => cases e
theorem cMul_ok (i j : Int) (h : cMul i j = true) : CMul i j := by
  unfold cMul at h
  unfold CMul
  rcases (Bool.or_eq_true _ _).mp h with h | h
  · obtain ⟨a, b⟩ := (Bool.and_eq_true _ _).mp h
    exact .inl ⟨of_decide_eq_true a, of_decide_eq_true b⟩
  · obtain ⟨a, b⟩ := (Bool.and_eq_true _ _).mp h
    exact .inr ⟨of_decide_eq_true a, of_decide_eq_true b⟩
theorem does_eq : Does2 K rEq oEq := by
  intro H x y d1 d2 f1 f2 d Q r1 r2 e k
  cases r1 <;> cases r2 <;> cases e
  · exact ⟨rfl, by have := k H (.bl true) (Same.refl H) (.bl _); simpa using this⟩
  · refine ⟨rfl, ?_⟩; rw [dec_bl]; exact k H _ (Same.refl H) (.bl _)
  · refine ⟨rfl, ?_⟩; rw [dec_int]; exact k H _ (Same.refl H) (.bl _)
  · refine ⟨rfl, ?_⟩; rw [dec_str]; exact k H _ (Same.refl H) (.bl _)
theorem does_ne : Does2 K rNe oNe := by
  intro H x y d1 d2 f1 f2 d Q r1 r2 e k
  cases r1 <;> cases r2 <;> cases e
  · exact ⟨rfl, by have := k H (.bl false) (Same.refl H) (.bl _); simpa using this⟩
  · refine ⟨rfl, ?_⟩; rw [dec_bl]; exact k H _ (Same.refl H) (.bl _)
  · refine ⟨rfl, ?_⟩; rw [dec_int]; exact k H _ (Same.refl H) (.bl _)
  · refine ⟨rfl, ?_⟩; rw [dec_str]; exact k H _ (Same.refl H) (.bl _)
theorem Rep.isNon {H : Hp} {d : D} {v : V} {fp : List Addr} (r : Rep K H d v fp) : decide (v = .non) = isNon d := by
  cases r <;> first | rfl | exact decide_eq_false (fun e => nomatch e)
theorem does_isN : Does2 K (fun x y H Q => y = .non ∧ Q (.bl (decide (x = .non))) H) oIsN := by
  intro H x y d1 d2 f1 f2 d Q r1 r2 e k
  cases r2 with
  | non =>
    have e : some (D.bl (Ev.isNon d1)) = some d := by cases d1 <;> exact e
    cases e
    refine ⟨rfl, ?_⟩
    rw [r1.isNon]
    exact k H _ (Same.refl H) (.bl _)
  | _ => cases d1 <;> cases e
theorem does_notN : Does2 K (fun x y H Q => y = .non ∧ Q (.bl (!decide (x = .non))) H) oNotN := by
  intro H x y d1 d2 f1 f2 d Q r1 r2 e k
  cases r2 with
  | non =>
    have e : some (D.bl (!Ev.isNon d1)) = some d := by cases d1 <;> exact e
    cases e
    refine ⟨rfl, ?_⟩
    rw [r1.isNon]
    exact k H _ (Same.refl H) (.bl _)
  | _ => cases d1 <;> cases e
end
section
variable {X : Cx} {a b : Expr} {fa fb : EF} {pos : Pos}
theorem fp_add (ha : FP X a fa) (hb : FP X b fb) : FP X (.BinOp a .Add b pos) (e2 oAdd fa fb) := fp_bin op_add does_i ha hb
theorem fp_sub (ha : FP X a fa) (hb : FP X b fb) : FP X (.BinOp a .Sub b pos) (e2 oSub fa fb) := fp_bin op_sub does_i ha hb
theorem fp_mul (ha : FP X a fa) (hb : FP X b fb) : FP X (.BinOp a .Mult b pos) (e2 oMul fa fb) := fp_bin op_mul (does_iC cMul_ok) ha hb
theorem fp_mod (ha : FP X a fa) (hb : FP X b fb) : FP X (.BinOp a .Mod b pos) (e2 oMod fa fb) := fp_bin op_mod (does_iC fun _ _ h => of_decide_eq_true h) ha hb
theorem ft_lt (ha : FP X a fa) (hb : FP X b fb) : FT X (.Compare a [.Lt] [b] pos) (tV (e2 oLt fa fb)) := ft_cmp op_lt does_iB ha hb (nomark _)
theorem ft_le (ha : FP X a fa) (hb : FP X b fb) : FT X (.Compare a [.LtE] [b] pos) (tV (e2 oLe fa fb)) := ft_cmp op_le does_iB ha hb (nomark _)
theorem ft_gt (ha : FP X a fa) (hb : FP X b fb) : FT X (.Compare a [.Gt] [b] pos) (tV (e2 oGt fa fb)) := ft_cmp op_gt does_iB ha hb (nomark _)
theorem ft_ge (ha : FP X a fa) (hb : FP X b fb) : FT X (.Compare a [.GtE] [b] pos) (tV (e2 oGe fa fb)) := ft_cmp op_ge does_iB ha hb (nomark _)
theorem ft_eq (ha : FP X a fa) (hb : FP X b fb) : FT X (.Compare a [.Eq] [b] pos) (tV (e2 oEq fa fb)) := ft_cmp op_eq does_eq ha hb (nomark _)
theorem ft_ne (ha : FP X a fa) (hb : FP X b fb) : FT X (.Compare a [.NotEq] [b] pos) (tV (e2 oNe fa fb)) := ft_cmp op_ne does_ne ha hb (nomark _)
theorem ft_isN (ha : FP X a fa) (hb : FP X b fb) : FT X (.Compare a [.Is] [b] pos) (tV (e2 oIsN fa fb)) := ft_cmp op_isN does_isN ha hb (nomark _)
theorem ft_notN (ha : FP X a fa) (hb : FP X b fb) : FT X (.Compare a [.IsNot] [b] pos) (tV (e2 oNotN fa fb)) := ft_cmp op_notN does_notN ha hb (nomark _)
theorem fp_eq (ha : FP X a fa) (hb : FP X b fb) : FP X (.Compare a [.Eq] [b] pos) (e2 oEq fa fb) := fp_cmp op_eq does_eq ha hb (nomark _)
theorem fp_ne (ha : FP X a fa) (hb : FP X b fb) : FP X (.Compare a [.NotEq] [b] pos) (e2 oNe fa fb) := fp_cmp op_ne does_ne ha hb (nomark _)
def e1 (op : D → Option D) (fa : EF) : EF := fun ρ => match fa ρ with
  | some (d1, _) => (op d1).map fun d => (d, .own)
  | none => none
theorem e1_of {op : D → Option D} {fa : EF} {ρ : Rho} {d : D} {tg : Tag} (e : e1 op fa ρ = some (d, tg)) : ∃ d1 t1, fa ρ = some (d1, t1) ∧ op d1 = some d ∧ tg = .own := by
  unfold e1 at e
  cases h1 : fa ρ with
  | none => rw [h1] at e; cases e
  | some p =>
    obtain ⟨d1, t1⟩ := p
    rw [h1] at e
    dsimp only at e
    cases h3 : op d1 with
    | none => rw [h3] at e; cases e
    | some d3 => rw [h3] at e; cases e; exact ⟨d1, t1, rfl, h3, rfl⟩
def Does1 (K : PySem.W.Frag) (r : List V → Hp → VK → Prop) (op : D → Option D) : Prop := ∀ (H : Hp) (x : V) (d1 : D) (f1 : List Addr) (d : D) (Q : VK), Rep K H d1 x f1 → op d1 = some d →
  (∀ H' v fp, Same H H' → Rep K H' d v fp → fp.Nodup → (∀ a ∈ fp, H a = none) → Q v H') → r [x] H Q
theorem fp_1 {e : Expr} {r : List V → Hp → VK → Prop} {op : D → Option D} (dd : Does1 X.K r op) (ha : FP X a fa) (he : ∀ ta, PE X a ta → PE X e (tCB r (tCons ta tNil))) : FP X e (e1 op fa) := by
  obtain ⟨t, p, q⟩ := ha
  refine ⟨_, he t p, fun H0 S z held ρ σ H Q d tg ok e k => ?_⟩
  obtain ⟨d1, t1, h1, h2, rfl⟩ := e1_of e
  refine q H0 S z held ρ σ H _ d1 t1 ok h1 fun H1 x f1 s1 r1 _ => ?_
  exact dd H1 x d1 f1 d Q r1 h2 fun H2 v fp s2 r2 nd fr => k H2 v fp (s1.trans s2) r2 ⟨nd, fun a m => s1.free (fr a m)⟩
def oLen : D → Option D
  | .lst ds => some (.int ds.length)
  | .fls ds => some (.int ds.length)
  | .tup ds => some (.int ds.length)
  | .dic es => some (.int es.length)
  | _ => none
theorem CallR.or' {f : Value} {r r' : List V → Hp → VK → Prop} (h : CallR X f r) (h' : CallR X f r') : CallR X f (fun xs H Q => r xs H Q ∨ r' xs H Q) := by
  intro pins s σ H xs us Q I rv q
  rcases q with q | q
  · exact h pins s σ H xs us Q I rv q
  · exact h' pins s σ H xs us Q I rv q
theorem does_len : Does1 X.K (fun xs H Q => (∃ p ys, xs = [V.ref p] ∧ (SqL X.K H p ys ∨ SqT X.K H p ys) ∧ Q (.int ys.length) H) ∨ (∃ a kvs, xs = [V.ref a] ∧ H a = some (.dK kvs) ∧ Q (.int kvs.length) H)) oLen := by
  intro H x d1 f1 d Q r e k
  have fin : ∀ n : Nat, d = .int n → Q (.int n) H := fun n e => by subst e; exact k H _ [] (Same.refl H) (.int _) List.nodup_nil fun a m => nomatch m
  cases d1 with
  | lst ds =>
    obtain ⟨a, xs, f, rfl, hq, rs, _⟩ := r.lst_of
    cases e
    exact .inl ⟨a, xs, rfl, .inl hq, by rw [← rs.length]; exact fin _ rfl⟩
  | fls ds =>
    obtain ⟨a, xs, rfl, hq, rs⟩ := r.fls_of
    cases e
    exact .inl ⟨a, xs, rfl, .inl hq, by rw [← rs.length]; exact fin _ rfl⟩
  | tup ds =>
    obtain ⟨a, xs, rfl, hq, rs⟩ := r.tup_of
    cases e
    exact .inl ⟨a, xs, rfl, .inr hq, by rw [← rs.length]; exact fin _ rfl⟩
  | dic es =>
    cases r with
    | dic h hk rs =>
      cases e
      refine .inr ⟨_, _, rfl, h, ?_⟩
      have hl := congrArg List.length hk
      rw [List.length_map, List.length_map] at hl
      rw [← hl]
      exact fin _ rfl
  | _ => cases e
theorem fp_len {p : Pos} (hm : X.mg "len" = none) (ha : FP X a fa) (hg : Gl X "len" := by rfl) (hs : starEach [a] X.env = [(false, eval a X.env)] := by rfl) : FP X (.Call (.Name "len" p) [a] [] pos) (e1 oLen fa) :=
  fp_1 does_len ha fun ta pa => pe_callB (CallR.or' call_len_seq call_lenD) hg hm PySem.boot_len (pa_cons pa pa_nil hs) (he := hs) (hpl := rfl)
def oList : D → Option D
  | .lst ds => if immAll ds = true then some (.lst ds) else none
  | .tup ds => if immAll ds = true then some (.lst ds) else none
  | _ => none
theorem does_list : Does1 X.K (fun xs H Q => ∃ p ys, xs = [V.ref p] ∧ (SqL X.K H p ys ∨ SqT X.K H p ys) ∧ ∀ l, H l = none → Q (.ref l) (upd H l (.lst ys))) oList := by
  intro H x d1 f1 d Q r e k
  have fin : ∀ {ds : List D} {xs : List V} {f : List Addr}, Reps X.K H ds xs f → (if immAll ds = true then some (D.lst ds) else none) = some d → ∀ l, H l = none → Q (.ref l) (upd H l (.lst xs)) := fun {ds xs f} rs e l hl => by
    by_cases hi : immAll ds = true
    · rw [if_pos hi] at e
      cases e
      have hn := rs.imm hi
      subst hn
      have s2 : Same H (upd H l (.lst xs)) := fun b o e => by rw [upd_ne (ne_of_none e hl)]; exact e
      exact k _ _ [l] s2 (.lst upd_same (rs.same s2)) (List.nodup_cons.mpr ⟨(fun m => by cases m), List.nodup_nil⟩) fun a m => by cases List.mem_singleton.mp m; exact hl
    · rw [if_neg hi] at e; cases e
  cases d1 with
  | lst ds =>
    obtain ⟨a, xs, f, rfl, hq, rs, _⟩ := r.lst_of
    exact ⟨a, xs, rfl, .inl hq, fin rs e⟩
  | tup ds =>
    obtain ⟨a, xs, rfl, hq, rs⟩ := r.tup_of
    exact ⟨a, xs, rfl, .inr hq, fin rs e⟩
  | _ => cases e
theorem fp_list {p : Pos} (hm : X.mg "list" = none) (ha : FP X a fa) (hg : Gl X "list" := by rfl) (hs : starEach [a] X.env = [(false, eval a X.env)] := by rfl) : FP X (.Call (.Name "list" p) [a] [] pos) (e1 oList fa) :=
  fp_1 does_list ha fun ta pa => pe_callTy call_list_of hg hm (by rfl) (pa_cons pa pa_nil hs) (he := hs) (hpl := rfl)
end
end L2.Ev
namespace L2.Ev
open PySem PySem.Spec PyProof.Rows
def oIx : D → D → Option D
  | .fls ds, .int i => (atI ds i).bind fun d => if imm d = true then some d else none
  | .lst ds, .int i => (atI ds i).bind fun d => if imm d = true then some d else none
  | .tup ds, .int i => (atI ds i).bind fun d => if imm d = true then some d else none
  | _, _ => none
theorem does_ix {K : PySem.W.Frag} : Does2 K (fun x y H Q => rIxL K x y H Q ∨ rIxT K x y H Q ∨ rIxS x y H Q) oIx := by
  intro H x y d1 d2 f1 f2 d Q r1 r2 e k
  have key : ∀ {ds : List D} {xs : List V} {f : List Addr} {i : Int}, Reps K H ds xs f → ((atI ds i).bind fun d => if imm d = true then some d else none) = some d → ∃ v, atI xs i = some v ∧ Rep K H d v [] := fun {ds xs f i} rs e => by
    unfold atI at e ⊢
    rw [← rs.length]
    cases h : ixN ds.length i with
    | none => rw [h] at e; cases e
    | some j =>
      rw [h, Option.bind_some] at e
      rw [Option.bind_some]
      cases h2 : ds[j]? with
      | none => rw [h2] at e; cases e
      | some d' =>
        rw [h2, Option.bind_some] at e
        by_cases hi : imm d' = true
        · rw [if_pos hi] at e
          cases e
          obtain ⟨v, f', hv, rv, _⟩ := rs.get h2
          have hn := rv.imm hi
          subst hn
          exact ⟨v, hv, rv⟩
        · rw [if_neg hi] at e; cases e
  cases d1 with
  | fls ds =>
    cases r2 <;> try cases e
    obtain ⟨a, xs, rfl, hq, rs⟩ := r1.fls_of
    obtain ⟨v, hv, rv⟩ := key rs e
    exact .inl ⟨a, xs, _, v, rfl, rfl, hq, hv, k H v (Same.refl H) rv⟩
  | lst ds =>
    cases r2 <;> try cases e
    obtain ⟨a, xs, f, rfl, hq, rs, _⟩ := r1.lst_of
    obtain ⟨v, hv, rv⟩ := key rs e
    exact .inl ⟨a, xs, _, v, rfl, rfl, hq, hv, k H v (Same.refl H) rv⟩
  | tup ds =>
    cases r2 <;> try cases e
    obtain ⟨a, xs, rfl, hq, rs⟩ := r1.tup_of
    obtain ⟨v, hv, rv⟩ := key rs e
    exact .inr (.inl ⟨a, xs, _, v, rfl, rfl, hq, hv, k H v (Same.refl H) rv⟩)
  | _ => cases r2 <;> cases e
theorem fp_ix {X : Cx} {a b : Expr} {fa fb : EF} {pos : Pos} (ha : FP X a fa) (hb : FP X b fb) (hs : PlainIx b := by exact fun _ _ => rfl) : FP X (.Subscript a b pos) (e2 oIx fa fb) := fp_2 does_ix ha hb fun _ _ pa pb => pe_ix ix_seq pa pb hs
section
variable {ρ ρ' : Rho} {i j : Nat} {d d1 d2 : D} {t t1 t2 : Tag} {op2 : D → D → Option D} {op1 : D → Option D} {f g fa fb : EF} {tf tg : TF} {sf sg : SF} {o : Out}
def varK (i : Nat) : Option Slot → Option (D × Tag)
  | some (some (d, t)) => some (d, tagOf i t)
  | _ => none
theorem s_eVar : eVar i ρ = varK i ρ[i]? := by
  unfold eVar varK
  cases ρ[i]? with
  | none => rfl
  | some s => cases s <;> rfl
theorem s_varK : varK i (some (some (d, t))) = some (d, tagOf i t) := rfl
theorem s_tagS {o : List Nat} : tagOf i (.sh o) = .sh o := rfl
theorem s_tagO : tagOf i .own = .sh [i] := rfl
theorem s_tagL : tagOf i .lk = .sh [i] := rfl
theorem s_eC : eC d ρ = some (d, .own) := rfl
def k1 (op : D → Option D) : Option (D × Tag) → Option (D × Tag)
  | some (d, _) => (op d).map fun d => (d, .own)
  | none => none
theorem s_e1 : e1 op1 fa ρ = k1 op1 (fa ρ) := by unfold e1 k1; cases fa ρ <;> rfl
theorem s_k1 : k1 op1 (some (d, t)) = (op1 d).map fun d => (d, .own) := rfl
def k2 (op : D → D → Option D) : Option (D × Tag) → Option (D × Tag) → Option (D × Tag)
  | some (d1, _), some (d2, _) => (op d1 d2).map fun d => (d, .own)
  | _, _ => none
theorem s_e2 : e2 op2 fa fb ρ = k2 op2 (fa ρ) (fb ρ) := by unfold e2 k2; cases fa ρ <;> cases fb ρ <;> rfl
theorem s_k2 : k2 op2 (some (d1, t1)) (some (d2, t2)) = (op2 d1 d2).map fun d => (d, .own) := rfl
theorem s_map {α β : Type} {f : α → β} {a : α} : (some a).map f = some (f a) := rfl
def kV : Option (D × Tag) → Option Bool
  | some (.bl b, _) => some b
  | _ => none
theorem s_tV : tV fa ρ = Ev.kV (fa ρ) := by
  unfold tV Ev.kV
  cases fa ρ with
  | none => rfl
  | some p => obtain ⟨d, t⟩ := p; cases d <;> rfl
theorem s_kV {b : Bool} : Ev.kV (some (.bl b, t)) = some b := rfl
theorem s_and : tAnd2 tf tg ρ = (match tf ρ with | some true => tg ρ | some false => some false | none => none) := rfl
theorem s_andT (h : tf ρ = some true) : tAnd2 tf tg ρ = tg ρ := by unfold tAnd2; rw [h]
theorem s_andF (h : tf ρ = some false) : tAnd2 tf tg ρ = some false := by unfold tAnd2; rw [h]
theorem s_orT (h : tf ρ = some true) : tOr2 tf tg ρ = some true := by unfold tOr2; rw [h]
theorem s_orF (h : tf ρ = some false) : tOr2 tf tg ρ = tg ρ := by unfold tOr2; rw [h]
theorem s_and2 {a b : Bool} (h : tf ρ = some a) (h2 : tg ρ = some b) : tAnd2 tf tg ρ = some (a && b) := by unfold tAnd2; rw [h]; cases a <;> first | exact h2 | rfl
theorem s_or2 {a b : Bool} (h : tf ρ = some a) (h2 : tg ρ = some b) : tOr2 tf tg ρ = some (a || b) := by unfold tOr2; rw [h]; cases a <;> first | exact h2 | rfl
theorem s_not : tNot1 tf ρ = (tf ρ).map fun b => !b := rfl
theorem s_eB {b : Bool} (h : tf ρ = some b) : eB tf ρ = some (.bl b, .own) := by unfold eB; rw [h]; rfl
theorem s_nx : sNx ρ = some (.nx ρ) := rfl
theorem s_bk : sBk ρ = some (.bk ρ) := rfl
theorem s_ct : sCt ρ = some (.ct ρ) := rfl
def seqK (g : SF) : Option Out → Option Out
  | some (.nx ρ) => g ρ
  | o => o
theorem s_seq : sSeq sf sg ρ = seqK sg (sf ρ) := by
  unfold sSeq seqK
  cases sf ρ with
  | none => rfl
  | some o => cases o <;> rfl
theorem s_seqN : seqK sg (some (.nx ρ)) = sg ρ := rfl
theorem s_seqR : seqK sg (some (.rt d)) = some (.rt d) := rfl
theorem s_seqB : seqK sg (some (.bk ρ)) = some (.bk ρ) := rfl
theorem s_seqC : seqK sg (some (.ct ρ)) = some (.ct ρ) := rfl
def ifK (sf sg : SF) (ρ : Rho) : Option Bool → Option Out
  | some true => sf ρ
  | some false => sg ρ
  | none => none
theorem s_if : sIf tf sf sg ρ = ifK sf sg ρ (tf ρ) := by unfold sIf ifK; cases tf ρ <;> rfl
theorem s_ifT : ifK sf sg ρ (some true) = sf ρ := rfl
theorem s_ifF : ifK sf sg ρ (some false) = sg ρ := rfl
def retK : Option (D × Tag) → Option Out
  | some (d, t) => if isOwn t = true then some (.rt d) else if imm d = true then some (.rt d) else none
  | none => none
theorem s_ret : sRet fa ρ = retK (fa ρ) := by unfold sRet retK; cases fa ρ <;> rfl
theorem s_retO : retK (some (d, .own)) = some (.rt d) := rfl
theorem s_retS {o : List Nat} (h : imm d = true) : retK (some (d, .sh o)) = some (.rt d) := by show (if false = true then some (Out.rt d) else if imm d = true then some (Out.rt d) else none) = _; rw [if_neg Bool.false_ne_true, if_pos h]
def retVK : Option Slot → Option Out
  | some (some (d, t)) => if isOwn t = true then some (.rt d) else if imm d = true then some (.rt d) else none
  | _ => none
theorem s_retV : sRetV i ρ = retVK ρ[i]? := by
  unfold sRetV retVK
  cases ρ[i]? with
  | none => rfl
  | some s => cases s <;> rfl
theorem s_retVO : retVK (some (some (d, .own))) = some (.rt d) := rfl
theorem s_retVL : retVK (some (some (d, .lk))) = some (.rt d) := rfl
theorem s_retVS {o : List Nat} (h : imm d = true) : retVK (some (some (d, .sh o))) = some (.rt d) := by show (if false = true then some (Out.rt d) else if imm d = true then some (Out.rt d) else none) = _; rw [if_neg Bool.false_ne_true, if_pos h]
def setK (i : Nat) (ρ : Rho) : Option (D × Tag) → Option Out
  | some (d, t) => some (.nx (setS ρ i d t))
  | none => none
theorem s_set : sSet i fa ρ = setK i ρ (fa ρ) := by unfold sSet setK; cases fa ρ <;> rfl
theorem s_setO : setK i ρ (some (d, .own)) = some (.nx (ρ.set i (some (d, .own)))) := rfl
theorem s_setS {o : List Nat} : setK i ρ (some (d, .sh o)) = some (.nx (ρ.set i (some (d, .sh o)))) := rfl
theorem s_sS {o : List Nat} : setS ρ i d (.sh o) = ρ.set i (some (d, .sh o)) := rfl
theorem s_sO : setS ρ i d .own = ρ.set i (some (d, .own)) := rfl
theorem s_gN : gN i d t ρ = some (setS ρ i d t) := rfl
theorem s_aNil : aNil ρ = some [] := rfl
def consK : Option (D × Tag) → Option (List (D × Tag)) → Option (List (D × Tag))
  | some p, some ps => some (p :: ps)
  | _, _ => none
theorem s_aCons {a : AF} : aCons fa a ρ = consK (fa ρ) (a ρ) := by unfold aCons consK; cases fa ρ <;> cases a ρ <;> rfl
theorem s_consK {p : D × Tag} {ps : List (D × Tag)} : consK (some p) (some ps) = some (p :: ps) := rfl
theorem s_call {F : List D → Option D} {a : AF} : eCall F a ρ = (a ρ).bind fun ps => (F (ps.map (·.1))).map fun d => (d, .own) := rfl
theorem s_bind {α β : Type} {f : α → Option β} {a : α} : (some a).bind f = f a := rfl
theorem s_tup {a : AF} : eTup a ρ = (a ρ).map fun ps => (.tup (ps.map (·.1)), joinA ps) := rfl
theorem s_lst {a : AF} : eLst a ρ = (a ρ).map fun ps => (.lst (ps.map (·.1)), joinA ps) := rfl
variable {m n : Int}
theorem s_oAdd : oAdd (.int m) (.int n) = some (.int (m + n)) := rfl
theorem s_oSub : oSub (.int m) (.int n) = some (.int (m - n)) := rfl
theorem s_oMul (h : cMul m n = true) : oMul (.int m) (.int n) = some (.int (m * n)) := by show (if cMul m n = true then some (D.int (m * n)) else none) = _; rw [if_pos h]
theorem s_oMod (h : 0 < n) : oMod (.int m) (.int n) = some (.int (m % n)) := by show (if cPos m n = true then some (D.int (m % n)) else none) = _; rw [if_pos (show cPos m n = true from decide_eq_true h)]
theorem s_oLt : oLt (.int m) (.int n) = some (.bl (decide (m < n))) := rfl
theorem s_oLe : oLe (.int m) (.int n) = some (.bl (decide (m ≤ n))) := rfl
theorem s_oGt : oGt (.int m) (.int n) = some (.bl (decide (n < m))) := rfl
theorem s_oGe : oGe (.int m) (.int n) = some (.bl (decide (n ≤ m))) := rfl
theorem s_oEq : oEq (.int m) (.int n) = some (.bl (m == n)) := rfl
theorem s_oNe : oNe (.int m) (.int n) = some (.bl (!(m == n))) := rfl
theorem s_lenL {ds : List D} : oLen (.lst ds) = some (.int ds.length) := rfl
theorem s_lenF {ds : List D} : oLen (.fls ds) = some (.int ds.length) := rfl
theorem s_lenT {ds : List D} : oLen (.tup ds) = some (.int ds.length) := rfl
theorem s_lenD {es : List (Key × D)} : oLen (.dic es) = some (.int es.length) := rfl
theorem s_ixL {ds : List D} (h : atI ds m = some d) (hi : imm d = true) : oIx (.lst ds) (.int m) = some d := by show ((atI ds m).bind fun d => if imm d = true then some d else none) = _; rw [h, Option.bind_some, if_pos hi]
theorem s_ixF {ds : List D} (h : atI ds m = some d) (hi : imm d = true) : oIx (.fls ds) (.int m) = some d := by show ((atI ds m).bind fun d => if imm d = true then some d else none) = _; rw [h, Option.bind_some, if_pos hi]
theorem s_ixT {ds : List D} (h : atI ds m = some d) (hi : imm d = true) : oIx (.tup ds) (.int m) = some d := by show ((atI ds m).bind fun d => if imm d = true then some d else none) = _; rw [h, Option.bind_some, if_pos hi]
theorem runF_rt {n N : Nat} {b : SF} {ds : List D} (hl : ds.length = n) (h : b (iniF N ds) = some (.rt d)) : runF n N b ds = some d := by unfold runF; rw [if_pos hl, h]
theorem runF_nx {n N : Nat} {b : SF} {ds : List D} (hl : ds.length = n) (h : b (iniF N ds) = some (.nx ρ)) : runF n N b ds = some .non := by unfold runF; rw [if_pos hl, h]
end
def dI (ns : List Int) : D := .fls (ns.map D.int)
theorem atI_ints {ns : List Int} {i : Int} (h0 : 0 ≤ i) (h1 : i < ns.length) : atI (ns.map D.int) i = some (.int (ns.getD i.toNat 0)) := by
  unfold atI ixN
  have h2 : i.toNat < ns.length := by omega
  rw [List.length_map, if_pos h0, if_pos h1, Option.bind_some, List.getElem?_map, List.getElem?_eq_getElem h2, List.getD_eq_getElem?_getD, List.getElem?_eq_getElem h2]
  rfl
end L2.Ev
namespace L2.Ev
open PySem PySem.Spec PyProof.Rows
section
variable {κ : Type} [DecidableEq κ]
def valD (es : List (κ × D)) (k : κ) : Option D := (es.find? fun kv => decide (kv.1 = k)).map (·.2)
def putD (es : List (κ × D)) (k : κ) (d : D) : List (κ × D) :=
  if (es.any fun kv => decide (kv.1 = k)) = true then es.map (fun kv => if kv.1 = k then (kv.1, d) else kv) else es ++ [(k, d)]
theorem rep_val {K : PySem.W.Frag} {H : Hp} {k : κ} : ∀ {es : List (κ × D)} {kvs : List (κ × V)} {fp : List Addr}, es.map (·.1) = kvs.map (·.1) → Reps K H (es.map (·.2)) (kvs.map (·.2)) fp →
    (∀ d, valD es k = some d → ∃ v f, valV kvs k = some v ∧ Rep K H d v f ∧ ∀ a ∈ f, a ∈ fp) ∧ (valD es k = none → valV kvs k = none)
  | [], [], _, _, _ => ⟨fun d e => (nomatch e), fun _ => rfl⟩
  | [], _ :: _, _, e, _ => by simp at e
  | _ :: _, [], _, e, _ => by simp at e
  | (q, d0) :: es, (q', v0) :: kvs, fp, e, r => by
    simp only [List.map_cons, List.cons.injEq] at e
    obtain ⟨rfl, e⟩ := e
    simp only [List.map_cons] at r
    cases r with
    | @cons _ _ _ _ f1 f2 r1 r2 =>
      obtain ⟨i1, i2⟩ := rep_val (k := k) e r2
      by_cases h : q = k
      · have e1 : valD ((q, d0) :: es) k = some d0 := by unfold valD; rw [List.find?_cons, decide_eq_true h]; rfl
        refine ⟨fun d ed => ?_, fun en => ?_⟩
        · rw [e1] at ed
          cases ed
          exact ⟨v0, f1, valV_pos h, r1, fun a m => List.mem_append_left _ m⟩
        · rw [e1] at en; cases en
      · have e1 : valD ((q, d0) :: es) k = valD es k := by unfold valD; rw [List.find?_cons, decide_eq_false h]
        rw [e1, valV_neg h]
        exact ⟨fun d ed => let ⟨v, f, a, b, c⟩ := i1 d ed; ⟨v, f, a, b, fun x m => List.mem_append_right _ (c x m)⟩, i2⟩
theorem putD_keys {es : List (κ × D)} {kvs : List (κ × V)} {k : κ} {d : D} {v : V} (e : es.map (·.1) = kvs.map (·.1)) : (putD es k d).map (·.1) = (putK kvs k v).map (·.1) := by
  have any : (es.any fun kv => decide (kv.1 = k)) = kvs.any fun kv => decide (kv.1 = k) := by
    have h1 : (es.any fun kv => decide (kv.1 = k)) = (es.map (·.1)).any fun x => decide (x = k) := by rw [List.any_map]; rfl
    have h2 : (kvs.any fun kv => decide (kv.1 = k)) = (kvs.map (·.1)).any fun x => decide (x = k) := by rw [List.any_map]; rfl
    rw [h1, h2, e]
  have m1 : ∀ l : List (κ × D), (l.map fun kv => if kv.1 = k then (kv.1, d) else kv).map (·.1) = l.map (·.1) := fun l => by
    rw [List.map_map]; congr 1; funext kv; show (if kv.1 = k then (kv.1, d) else kv).1 = kv.1; split <;> rfl
  have m2 : ∀ l : List (κ × V), (l.map fun kv => if kv.1 = k then (kv.1, v) else kv).map (·.1) = l.map (·.1) := fun l => by
    rw [List.map_map]; congr 1; funext kv; show (if kv.1 = k then (kv.1, v) else kv).1 = kv.1; split <;> rfl
  unfold putD putK
  rw [any]
  by_cases h : (kvs.any fun kv => decide (kv.1 = k)) = true
  · rw [if_pos h, if_pos h, m1, m2, e]
  · rw [if_neg h, if_neg h, List.map_append, List.map_append, e]; rfl
theorem putD_reps {K : PySem.W.Frag} {H : Hp} {k : κ} {d : D} {v : V} {es : List (κ × D)} {kvs : List (κ × V)} (e : es.map (·.1) = kvs.map (·.1)) (r : Reps K H (es.map (·.2)) (kvs.map (·.2)) []) (rv : Rep K H d v []) :
    Reps K H ((putD es k d).map (·.2)) ((putK kvs k v).map (·.2)) [] := by
  have any : (es.any fun kv => decide (kv.1 = k)) = kvs.any fun kv => decide (kv.1 = k) := by
    have h1 : (es.any fun kv => decide (kv.1 = k)) = (es.map (·.1)).any fun x => decide (x = k) := by rw [List.any_map]; rfl
    have h2 : (kvs.any fun kv => decide (kv.1 = k)) = (kvs.map (·.1)).any fun x => decide (x = k) := by rw [List.any_map]; rfl
    rw [h1, h2, e]
  have go : ∀ (es : List (κ × D)) (kvs : List (κ × V)), es.map (·.1) = kvs.map (·.1) → Reps K H (es.map (·.2)) (kvs.map (·.2)) [] → Reps K H ((es.map fun kv => if kv.1 = k then (kv.1, d) else kv).map (·.2)) ((kvs.map fun kv => if kv.1 = k then (kv.1, v) else kv).map (·.2)) [] := by
    intro es
    induction es with
    | nil =>
      intro kvs e r
      cases kvs with
      | nil => exact .nil
      | cons _ _ => simp at e
    | cons p es ih =>
      intro kvs e r
      cases kvs with
      | nil => simp at e
      | cons p' kvs =>
        obtain ⟨q, d0⟩ := p
        obtain ⟨q', v0⟩ := p'
        simp only [List.map_cons, List.cons.injEq] at e
        obtain ⟨rfl, e⟩ := e
        simp only [List.map_cons] at r ⊢
        generalize hf : ([] : List Addr) = fp at r
        cases r with
        | @cons _ _ _ _ f1 f2 r1 r2 =>
          obtain ⟨h1, h2⟩ := List.append_eq_nil_iff.mp hf.symm
          subst h1 h2
          have t := ih kvs e r2
          by_cases h : q = k
          · rw [if_pos h, if_pos h]; exact Reps.cons (f1 := []) (f2 := []) rv t
          · rw [if_neg h, if_neg h]; exact Reps.cons (f1 := []) (f2 := []) r1 t
  unfold putD putK
  rw [any]
  by_cases h : (kvs.any fun kv => decide (kv.1 = k)) = true
  · rw [if_pos h, if_pos h]; exact go es kvs e r
  · rw [if_neg h, if_neg h, List.map_append, List.map_append]
    exact Reps.append (f := []) (g := []) r (Reps.cons (f1 := []) (f2 := []) rv .nil)
end
def keyD : D → Option Key
  | .int i => some (.inl i)
  | .str x => some (.inr x)
  | _ => none
theorem Rep.key {K : PySem.W.Frag} {H : Hp} {d : D} {y : V} {fp : List Addr} {k : Key} (r : Rep K H d y fp) (e : keyD d = some k) : y = L2.kV k := by
  cases r <;> cases e <;> rfl
def oGet : D → D → Option D
  | .dic es, kd => match keyD kd with
    | some k => (valD es k).bind fun d => if imm d = true then some d else none
    | none => none
  | _, _ => none
def tDg : R2 := fun x y H Q => ∃ a v, x = .ref a ∧ DGet H a y (some v) ∧ Q v H
theorem does_get {K : PySem.W.Frag} : Does2 K tDg oGet := by
  intro H x y d1 d2 f1 f2 d Q r1 r2 e k
  cases r1 with
  | @dic a kvs es fp h hk rs =>
    have e : (match keyD d2 with | some k => (valD es k).bind fun d => if imm d = true then some d else none | none => none) = some d := e
    cases hkd : keyD d2 with
    | none => rw [hkd] at e; cases e
    | some key =>
      rw [hkd] at e
      dsimp only at e
      cases hv : valD es key with
      | none => rw [hv] at e; cases e
      | some d' =>
        rw [hv, Option.bind_some] at e
        by_cases hi : imm d' = true
        · rw [if_pos hi] at e
          cases e
          obtain ⟨v, f, h1, r, _⟩ := (rep_val (k := key) hk rs).1 d hv
          have hn := r.imm hi
          subst hn
          have ek := r2.key hkd
          subst ek
          have g := DGet.k (k := key) h
          rw [h1] at g
          exact ⟨a, v, rfl, g, k H v (Same.refl H) r⟩
        · rw [if_neg hi] at e; cases e
  | _ => cases e
section
variable {X : Cx} {a b c : Expr} {fa fb fc : EF} {pos : Pos}
theorem fp_dget (hu : X.A.units + 1 < cLine) (ha : FP X a fa) (hb : FP X b fb) (hs : NoSl b := by exact fun _ _ => rfl) : FP X (.Subscript a b pos) (e2 oGet fa fb) :=
  fp_2 does_get ha hb fun _ _ pa pb => pe_dget hu pa pb hs
def oGetD (d1 d2 d3 : D) : Option D := match d1, keyD d2 with
  | .dic es, some k => match valD es k with
    | some d => if imm d = true then some d else none
    | none => if imm d3 = true then some d3 else none
  | _, _ => none
def e3 (op : D → D → D → Option D) (fa fb fc : EF) : EF := fun ρ => match fa ρ, fb ρ, fc ρ with
  | some (d1, _), some (d2, _), some (d3, _) => (op d1 d2 d3).map fun d => (d, .own)
  | _, _, _ => none
theorem e3_of {op : D → D → D → Option D} {ρ : Rho} {d : D} {tg : Tag} (e : e3 op fa fb fc ρ = some (d, tg)) : ∃ d1 t1 d2 t2 d3 t3, fa ρ = some (d1, t1) ∧ fb ρ = some (d2, t2) ∧ fc ρ = some (d3, t3) ∧ op d1 d2 d3 = some d ∧ tg = .own := by
  unfold e3 at e
  cases h1 : fa ρ with
  | none => rw [h1] at e; cases e
  | some p =>
    cases h2 : fb ρ with
    | none => rw [h1, h2] at e; cases e
    | some q =>
      cases h3 : fc ρ with
      | none => rw [h1, h2, h3] at e; cases e
      | some r =>
        obtain ⟨d1, t1⟩ := p
        obtain ⟨d2, t2⟩ := q
        obtain ⟨d3, t3⟩ := r
        rw [h1, h2, h3] at e
        dsimp only at e
        cases h4 : op d1 d2 d3 with
        | none => rw [h4] at e; cases e
        | some d4 => rw [h4] at e; cases e; exact ⟨d1, t1, d2, t2, d3, t3, rfl, rfl, rfl, h4, rfl⟩
theorem fp_dget2 {apos cpos : Pos} (hu : X.A.units + 1 < cLine) (ha : FP X a fa) (hb : FP X b fb) (hc : FP X c fc) (m : M2 X a "get" apos b c cpos := by exact ⟨rfl, rfl, rfl, rfl⟩) : FP X (.Call (.Attribute a "get" apos) [b, c] [] cpos) (e3 oGetD fa fb fc) := by
  obtain ⟨ta, pa, sa⟩ := ha
  obtain ⟨tb, pb, sb⟩ := hb
  obtain ⟨tc, pc, sc⟩ := hc
  refine ⟨_, pe_dget2 hu pa pb pc m, fun H0 S z held ρ σ H Q d tg ok e k => ?_⟩
  obtain ⟨d1, t1, d2, t2, d3, t3, h1, h2, h3, h4, rfl⟩ := e3_of e
  refine sa H0 S z held ρ σ H _ d1 t1 ok h1 fun H1 x f1 s1 r1 _ => ?_
  cases d1 with
  | dic es =>
    cases r1 with
    | @dic p kvs _ fp h hk rs =>
      refine ⟨p, rfl, .inl ⟨kvs, .inl h⟩, ?_⟩
      refine sb H0 S z held ρ σ H1 _ d2 t2 (ok.same s1) h2 fun H2 y f2 s2 r2 _ => ?_
      refine sc H0 S z held ρ σ H2 _ d3 t3 ((ok.same s1).same s2) h3 fun H3 w f3 s3 r3 _ => ?_
      unfold oGetD at h4
      cases hkd : keyD d2 with
      | none => rw [hkd] at h4; cases h4
      | some key =>
        rw [hkd] at h4
        dsimp only at h4
        have ek := r2.key hkd
        subst ek
        have h3' : H3 p = some (.dK kvs) := s3 _ _ (s2 _ _ h)
        have g := DGet.k (k := key) h3'
        refine ⟨_, g, ?_⟩
        have sAll := (s1.trans s2).trans s3
        obtain ⟨i1, i2⟩ := rep_val (k := key) hk ((rs.same s2).same s3)
        cases hv : valD es key with
        | some d' =>
          rw [hv] at h4
          dsimp only at h4
          by_cases hi : imm d' = true
          · rw [if_pos hi] at h4
            cases h4
            obtain ⟨v, f, e1, r, _⟩ := i1 d hv
            have hn := r.imm hi
            subst hn
            rw [e1]
            exact k H3 v [] sAll r .nil
          · rw [if_neg hi] at h4; cases h4
        | none =>
          rw [hv] at h4
          dsimp only at h4
          by_cases hi : imm d3 = true
          · rw [if_pos hi] at h4
            cases h4
            rw [i2 hv]
            have hn := r3.imm hi
            subst hn
            exact k H3 w [] sAll r3 .nil
          · rw [if_neg hi] at h4; cases h4
  | _ => cases h4
theorem fp_dnew : FP X (.Dict [] [] pos) (eC (.dic [])) := by
  refine ⟨_, pe_dnewK, fun H0 S z held ρ σ H Q d tg ok e k p hp => ?_⟩
  cases e
  have s2 : Same H (upd H p (.dK [])) := fun b o e => by rw [upd_ne (ne_of_none e hp)]; exact e
  exact k _ _ [p] s2 (.dic upd_same rfl .nil) ⟨List.nodup_cons.mpr ⟨(fun m => by cases m), List.nodup_nil⟩, fun a m => by cases List.mem_singleton.mp m; exact hp⟩
end
def dropT (i : Nat) : Slot → Slot
  | some (d, .sh o) => if o.contains i = true then none else some (d, .sh o)
  | s => s
def mutS (ρ : Rho) (i : Nat) (d : D) : Rho := (ρ.map (dropT i)).set i (some (d, .own))
theorem Ok.mutate {K : PySem.W.Frag} {H0 : Hp} {S : List Addr} {z : Addr → Option Nat} {held : List Held} {ρ : Rho} {σ : St} {H : Hp} {i : Nat} {d0 d1 : D} {v : V} {fp : List Addr} {p : Addr} {o o' : HO} (ok : Ok K H0 S z held ρ σ H) (h : ρ[i]? = some (some (d0, .own)))
    (hs : σ[i]? = some (some v)) (zz : InZ z i .own fp) (hp : p ∈ fp) (ho : H p = some o) (mo : MutO o = true) (r1 : Rep K (upd H p o') d1 v fp) : Ok K H0 S z held (mutS ρ i d1) σ (upd H p o') := by
  have im : Imm H (upd H p o') := Imm.upd ho mo
  have zp : z p = some i := zz.2 p hp
  have hiρ : i < ρ.length := (List.getElem?_eq_some_iff.mp h).1
  refine ⟨fun j d t e => ?_, fun q m => ?_, fun a j e => ?_, fun a u e n => ?_, ?_⟩
  · unfold mutS at e
    by_cases hj : j = i
    · subst hj
      rw [List.getElem?_set_self (by rw [List.length_map]; exact hiρ)] at e
      cases e
      exact ⟨v, fp, hs, r1, zz⟩
    · rw [List.getElem?_set_ne (Ne.symm hj), List.getElem?_map] at e
      cases e0 : ρ[j]? with
      | none => rw [e0] at e; cases e
      | some s =>
        rw [e0] at e
        have e : dropT i s = some (d, t) := Option.some.inj e
        have e1 : s = some (d, t) ∧ ∀ o, t = .sh o → ¬ i ∈ o := by
          cases s with
          | none => cases e
          | some w =>
            obtain ⟨d', t'⟩ := w
            cases t' with
            | sh o =>
              have e : (if o.contains i = true then none else some (d', Tag.sh o)) = some (d, t) := e
              by_cases hc : o.contains i = true
              · rw [if_pos hc] at e; cases e
              · rw [if_neg hc] at e
                cases e
                exact ⟨rfl, fun o' eo m => by cases eo; exact hc (List.contains_iff_mem.mpr m)⟩
            | own => cases e; exact ⟨rfl, fun o eo => by cases eo⟩
            | lk => cases e; exact ⟨rfl, fun o eo => by cases eo⟩
        obtain ⟨rfl, nd⟩ := e1
        obtain ⟨v', fp', hs', r', z'⟩ := ok.sl j d t e0
        have np : ∀ a ∈ fp', a ≠ p := fun a m e => by
          subst e
          cases t with
          | sh o => exact nd o rfl (z' a m i zp)
          | own => have := z'.2 a m; rw [zp] at this; exact hj (Option.some.inj this).symm
          | lk => have := z'.2 a m; rw [zp] at this; exact hj (Option.some.inj this).symm
        exact ⟨v', fp', hs', r'.frame (fun a m => upd_ne (np a m)) im, z'⟩
  · obtain ⟨r, hz⟩ := ok.hl q m
    have np : ∀ a ∈ q.fp, a ≠ p := fun a m e => by
      subst e
      exact (hz a m i zp).2 d0 h
    refine ⟨r.frame (fun a m => upd_ne (np a m)) im, fun a ha j e => ?_⟩
    obtain ⟨h1, h2⟩ := hz a ha j e
    have hj : j ≠ i := fun e => h2 d0 (by rw [e]; exact h)
    refine ⟨h1, fun d e => ?_⟩
    unfold mutS at e
    rw [List.getElem?_set_ne (Ne.symm hj), List.getElem?_map] at e
    cases e0 : ρ[j]? with
    | none => rw [e0] at e; cases e
    | some s =>
      rw [e0] at e
      have e : dropT i s = some (d, .own) := Option.some.inj e
      cases s with
      | none => cases e
      | some w =>
        obtain ⟨d', t'⟩ := w
        cases t' with
        | sh o =>
          have e : (if o.contains i = true then none else some (d', Tag.sh o)) = some (d, .own) := e
          split at e <;> cases e
        | own => exact h2 d' e0
        | lk => cases e
  · obtain ⟨⟨u, w⟩, y⟩ := ok.zd a j e
    refine ⟨?_, y⟩
    by_cases ea : a = p
    · subst ea; exact ⟨_, upd_same⟩
    · exact ⟨u, by rw [upd_ne ea]; exact w⟩
  · have w := ok.en a u e n
    rw [upd_ne]
    · exact w
    · intro ea
      subst ea
      rcases (ok.zd a i zp).2 with q | q
      · rw [q] at e; cases e
      · exact n q
  · unfold mutS
    rw [List.length_set, List.length_map]
    exact ok.ln
section
variable {X : Cx} {pos : Pos}
def sDput (i : Nat) (fk fv : EF) : SF := fun ρ => match fv ρ, ρ[i]?, fk ρ with
  | some (d, _), some (some (.dic es, .own)), some (kd, _) => match keyD kd with
    | some k => if (imm d && immAll (es.map (·.2)) && decide (es.length < sizeLine)) = true then some (.nx (mutS ρ i (.dic (putD es k d)))) else none
    | none => none
  | _, _, _ => none
theorem fs_dput (i : Nat) {x : Str} {k v : Expr} {fk fv : EF} {p1 pos' : Pos} (hu : X.A.units + 1 < cLine) (hk : FP X k fk) (hv : FP X v fv) (hN : X.N[i]? = some x := by rfl) (hvis : Vis X.env.scope x := by first | exact Or.inl rfl | exact Or.inr (Or.inl rfl) | exact Or.inr (Or.inr rfl))
    (hd : (x == ("__debug__" : Str)) = false := by decide) (hcd : (x == ("__classdict__" : Str)) = false := by decide) (hs : swapsWith v (some (.Subscript (.Name x p1) k pos')) pos.line X.env = pure false := by rfl) :
    FS1 X (.Assign [.Subscript (.Name x p1) k pos'] v pos) (sDput i fk fv) := by
  obtain ⟨tk, pk, sk⟩ := hk
  obtain ⟨tv, pv', sv⟩ := hv
  refine ⟨_, ps_dput hu (pe_var (i := i) hN hvis hd hcd) pk pv' hs, fun H0 S z held ρ σ H E o ok e q => ?_⟩
  unfold sDput at e
  cases h1 : fv ρ with
  | none => rw [h1] at e; cases e
  | some w =>
    obtain ⟨d, td⟩ := w
    cases h2 : ρ[i]? with
    | none => rw [h1, h2] at e; cases e
    | some s =>
      cases h3 : fk ρ with
      | none => rw [h1, h2, h3] at e; cases s with
        | none => cases e
        | some w => obtain ⟨d', t'⟩ := w; cases d' <;> cases t' <;> cases e
      | some w =>
        obtain ⟨kd, tkd⟩ := w
        rw [h1, h2, h3] at e
        cases s with
        | none => cases e
        | some w =>
          obtain ⟨d', t'⟩ := w
          cases d' with
          | dic es =>
            cases t' with
            | own =>
              dsimp only at e
              cases h4 : keyD kd with
              | none => rw [h4] at e; cases e
              | some key =>
                rw [h4] at e
                dsimp only at e
                by_cases hc : (imm d && immAll (es.map (·.2)) && decide (es.length < sizeLine)) = true
                · rw [if_pos hc] at e
                  cases e
                  obtain ⟨hc1, hc3⟩ := (Bool.and_eq_true _ _).mp hc
                  obtain ⟨hc1, hc2⟩ := (Bool.and_eq_true _ _).mp hc1
                  have hz := of_decide_eq_true hc3
                  refine sv H0 S z held ρ σ H _ d td ok h1 fun H1 v fv' s1 rv _ => ?_
                  obtain ⟨xv, fp, hs', r, zz⟩ := (ok.same s1).sl i _ _ h2
                  refine ⟨xv, hs', ?_⟩
                  refine sk H0 S z held ρ σ H1 _ kd tkd (ok.same s1) h3 fun H2 y fk' s2 rk _ => ?_
                  have ek := rk.key h4
                  subst ek
                  have r' := r.same s2
                  cases r' with
                  | @dic a kvs _ f h hke rs =>
                    have hn := rs.imm hc2
                    subst hn
                    have hnv := rv.imm hc1
                    subst hnv
                    have hl : kvs.length = es.length := by have := congrArg List.length hke; simpa using this.symm
                    refine ⟨a, _, rfl, DPut.k (k := key) h (by rw [hl]; exact hz), ?_⟩
                    have im : Imm H2 (upd H2 a (.dK (putK kvs key v))) := Imm.upd h rfl
                    refine q z σ _ (Ok.mutate ((ok.same s1).same s2) h2 hs' zz List.mem_cons_self h rfl (.dic upd_same (putD_keys hke) ?_))
                    exact putD_reps hke (rs.frame (fun a m => nomatch m) im) ((rv.same s2).frame (fun a m => nomatch m) im)
                · rw [if_neg hc] at e; cases e
            | _ => cases e
          | _ => cases t' <;> cases e
end
end L2.Ev
namespace L2.Ev
open PySem PySem.Spec PyProof.Rows
def ins1 (x : Int) : List Int → List Int
  | [] => [x]
  | y :: r => if x ≤ y then x :: y :: r else y :: ins1 x r
def srt : List Int → List Int
  | [] => []
  | x :: r => ins1 x (srt r)
theorem ins1_perm (x : Int) : ∀ l : List Int, (ins1 x l).Perm (x :: l)
  | [] => .refl _
  | y :: r => by
    unfold ins1
    split
    · exact .refl _
    · exact ((ins1_perm x r).cons y).trans (.swap x y r)
theorem srt_perm : ∀ l : List Int, (srt l).Perm l
  | [] => .refl _
  | x :: r => (ins1_perm x (srt r)).trans ((srt_perm r).cons x)
theorem ins1_sorted (x : Int) : ∀ {l : List Int}, l.Pairwise (· ≤ ·) → (ins1 x l).Pairwise (· ≤ ·)
  | [], _ => List.pairwise_singleton _ _
  | y :: r, h => by
    obtain ⟨h1, h2⟩ := List.pairwise_cons.mp h
    unfold ins1
    split
    · rename_i hx
      exact List.pairwise_cons.mpr ⟨fun z m => (List.mem_cons.mp m).elim (fun e => e ▸ hx) fun m => Int.le_trans hx (h1 z m), h⟩
    · rename_i hx
      refine List.pairwise_cons.mpr ⟨fun z m => ?_, ins1_sorted x h2⟩
      rcases List.mem_cons.mp ((ins1_perm x r).mem_iff.mp m) with e | m
      · rw [e]; omega
      · exact h1 z m
theorem srt_sorted : ∀ l : List Int, (srt l).Pairwise (· ≤ ·)
  | [] => .nil
  | x :: r => ins1_sorted x (srt_sorted r)
theorem srt_unique {a b : List Int} (p : a.Perm b) (s : a.Pairwise (· ≤ ·)) : a = srt b := by
  have q : a.Perm (srt b) := p.trans (srt_perm b).symm
  exact q.eq_of_pairwise (fun x y _ _ h1 h2 => Int.le_antisymm h1 h2) s (srt_sorted b)
theorem srt_len (l : List Int) : (srt l).length = l.length := (srt_perm l).length_eq
def intsD : List D → Option (List Int)
  | [] => some []
  | .int i :: r => (intsD r).map (i :: ·)
  | _ => none
def keysI {α : Type} : List (Key × α) → Option (List Int)
  | [] => some []
  | (.inl i, _) :: r => (keysI r).map (i :: ·)
  | _ => none
theorem intsD_of {K : PySem.W.Frag} {H : Hp} : ∀ {ds : List D} {xs : List V} {fp : List Addr} {ns : List Int}, Reps K H ds xs fp → intsD ds = some ns → xs = ns.map V.int
  | _, _, _, ns, .nil, e => by cases e; rfl
  | _, _, _, ns, .cons (d := d) h t, e => by
    cases d with
    | int i =>
      unfold intsD at e
      cases q : intsD _ with
      | none => rw [q] at e; cases e
      | some r =>
        rw [q] at e
        cases e
        cases h
        rw [intsD_of t q]; rfl
    | _ => cases e
theorem intsD_map (ns : List Int) : intsD (ns.map D.int) = some ns := by
  induction ns with
  | nil => rfl
  | cons n r ih => rw [List.map_cons]; unfold intsD; rw [ih]; rfl
theorem keysI_of {α : Type} : ∀ {es : List (Key × α)} {ks : List Int}, keysI es = some ks → es.map (·.1) = ks.map Sum.inl
  | [], ks, e => by cases e; rfl
  | (.inl i, _) :: r, ks, e => by
    unfold keysI at e
    cases q : keysI r with
    | none => rw [q] at e; cases e
    | some l =>
      rw [q] at e
      cases e
      rw [List.map_cons, keysI_of q]; rfl
  | (.inr _, _) :: _, _, e => by cases e
def oSorted : D → Option D
  | .lst ds => match intsD ds with
    | some ns => if ns.length < 64 then some (.lst ((srt ns).map D.int)) else none
    | none => none
  | .dic es => match keysI es with
    | some ns => if ns.length < 64 then some (.lst ((srt ns).map D.int)) else none
    | none => none
  | _ => none
theorem reps_ints {K : PySem.W.Frag} {H : Hp} : ∀ ns : List Int, Reps K H (ns.map D.int) (ns.map V.int) []
  | [] => .nil
  | n :: r => Reps.cons (f1 := []) (f2 := []) (.int n) (reps_ints r)
theorem does_sorted {K : PySem.W.Frag} : Does1 K (rSorted K) oSorted := by
  intro H x d1 f1 d Q r e k
  have fin : ∀ (ns : List Int), (if ns.length < 64 then some (D.lst ((srt ns).map D.int)) else none) = some d → ns.length < 64 ∧ ∀ l (ks' : List Int), H l = none → ks'.Perm ns → ks'.Pairwise (· ≤ ·) → Q (.ref l) (upd H l (.lst (ks'.map V.int))) := fun ns e => by
    by_cases h : ns.length < 64
    · rw [if_pos h] at e
      cases e
      refine ⟨h, fun l ks' hl p s => ?_⟩
      have eq := srt_unique p s
      subst eq
      have s2 : Same H (upd H l (.lst ((srt ns).map V.int))) := fun b o e => by rw [upd_ne (ne_of_none e hl)]; exact e
      exact k _ _ [l] s2 (.lst upd_same (reps_ints _)) (List.nodup_cons.mpr ⟨(fun m => by cases m), List.nodup_nil⟩) fun a m => by cases List.mem_singleton.mp m; exact hl
    · rw [if_neg h] at e; cases e
  cases d1 with
  | lst ds =>
    obtain ⟨a, xs, f, rfl, hq, rs, _⟩ := r.lst_of
    have e : (match intsD ds with | some ns => if ns.length < 64 then some (D.lst ((srt ns).map D.int)) else none | none => none) = some d := e
    cases h : intsD ds with
    | none => rw [h] at e; cases e
    | some ns =>
      rw [h] at e
      obtain ⟨h1, h2⟩ := fin ns e
      have ex := intsD_of rs h
      subst ex
      exact ⟨a, ns, rfl, h1, .inr hq, h2⟩
  | dic es =>
    cases r with
    | @dic a kvs _ fp h hk rs =>
      have e : (match keysI es with | some ns => if ns.length < 64 then some (D.lst ((srt ns).map D.int)) else none | none => none) = some d := e
      cases h' : keysI es with
      | none => rw [h'] at e; cases e
      | some ns =>
        rw [h'] at e
        obtain ⟨h1, h2⟩ := fin ns e
        exact ⟨a, ns, rfl, h1, .inl ⟨kvs, h, by rw [← hk]; exact keysI_of h'⟩, h2⟩
  | _ => cases e
def pairsD : List D → Option (List (Key × D))
  | [] => some []
  | .tup [kd, d] :: r => match keyD kd, pairsD r with
    | some k, some ps => if imm d = true then some ((k, d) :: ps) else none
    | _, _ => none
  | _ => none
def oDict : D → Option D
  | .lst ds => (pairsD ds).map fun ps => .dic (ps.foldl (fun m p => putD m p.1 p.2) [])
  | .tup ds => (pairsD ds).map fun ps => .dic (ps.foldl (fun m p => putD m p.1 p.2) [])
  | .dic es => if immAll (es.map (·.2)) = true then some (.dic es) else none
  | _ => none
theorem boot_min' : bootBuiltins "min" = some (.builtin "min") := by decide +kernel
theorem boot_sorted' : bootBuiltins "sorted" = some (.builtin "sorted") := by decide +kernel
section
variable {X : Cx} {a b : Expr} {fa fb : EF} {pos : Pos}
theorem fp_sorted {p : Pos} (hc : X.calm = true) (hm : X.mg "sorted" = none) (ha : FP X a fa) (hg : Gl X "sorted" := by rfl) (hs : starEach [a] X.env = [(false, eval a X.env)] := by rfl) : FP X (.Call (.Name "sorted" p) [a] [] pos) (e1 oSorted fa) :=
  fp_1 does_sorted ha fun ta pa => pe_callB (call_sorted hc) hg hm boot_sorted' (pa_cons pa pa_nil hs) (he := hs) (hpl := rfl)
def oMin2 : D → D → Option D := iop fun i j => if j < i then j else i
def minI : List Int → Int
  | [] => 0
  | [x] => x
  | x :: r => if x ≤ minI r then x else minI r
theorem minI_spec : ∀ {l : List Int}, l ≠ [] → minI l ∈ l ∧ ∀ x ∈ l, minI l ≤ x
  | [x], _ => ⟨List.mem_cons_self, fun y m => by rw [List.mem_singleton.mp m]; exact Int.le_refl _⟩
  | x :: y :: r, _ => by
    obtain ⟨h1, h2⟩ := minI_spec (l := y :: r) (by simp)
    show (if x ≤ minI (y :: r) then x else minI (y :: r)) ∈ _ ∧ ∀ z ∈ _, (if x ≤ minI (y :: r) then x else minI (y :: r)) ≤ z
    by_cases h : x ≤ minI (y :: r)
    · rw [if_pos h]
      exact ⟨List.mem_cons_self, fun z m => (List.mem_cons.mp m).elim (fun e => by rw [e]; exact Int.le_refl _) fun m => Int.le_trans h (h2 z m)⟩
    · rw [if_neg h]
      exact ⟨List.mem_cons_of_mem _ h1, fun z m => (List.mem_cons.mp m).elim (fun e => by rw [e]; omega) fun m => h2 z m⟩
def oMinD : D → D → Option D
  | .lst ds, z => match intsD ds with
    | some [] => if imm z = true then some z else none
    | some (n :: r) => some (.int (minI (n :: r)))
    | none => none
  | _, _ => none
theorem fp_min2 {p : Pos} (hc : X.calm = true) (hm : X.mg "min" = none) (ha : FP X a fa) (hb : FP X b fb) (hg : Gl X "min" := by rfl) (hs : starEach [a, b] X.env = [(false, eval a X.env), (false, eval b X.env)] := by rfl) (hs2 : starEach [b] X.env = [(false, eval b X.env)] := by rfl) (hpl : (backTo pos (starEach [b] X.env)).any (·.1) = false := by rfl) :
    FP X (.Call (.Name "min" p) [a, b] [] pos) (e2 oMin2 fa fb) := by
  obtain ⟨ta, pa, sa⟩ := ha
  obtain ⟨tb, pb, sb⟩ := hb
  refine ⟨_, pe_callB (call_min2 hc) hg hm boot_min' (pa_cons pa (pa_cons pb pa_nil hs2) (by rw [hs, hs2])) (he := by rw [hs, hs2]) (hpl := hpl), fun H0 S z held ρ σ H Q d tg ok e k => ?_⟩
  obtain ⟨d1, t1, d2, t2, h1, h2, h3, rfl⟩ := e2_of e
  refine sa H0 S z held ρ σ H _ d1 t1 ok h1 fun H1 x f1 s1 r1 _ => ?_
  refine sb H0 S z held ρ σ H1 _ d2 t2 (ok.same s1) h2 fun H2 y f2 s2 r2 _ => ?_
  cases r1 <;> cases r2 <;> cases h3
  exact ⟨_, _, rfl, k H2 _ [] (s1.trans s2) (.int _) .nil⟩
theorem fp_minD {p kp : Pos} (hc : X.calm = true) (hm : X.mg "min" = none) (ha : FP X a fa) (hb : FP X b fb) (hg : Gl X "min" := by rfl) (hs : starEach [a] X.env = [(false, eval a X.env)] := by rfl)
    (h1 : backTo pos (starEach [a] X.env) = (false, eval a X.env) :: backTo pos (starEach [] X.env) := by rfl) (h2 : (backTo pos (starEach [a] X.env)).any (·.1) = false := by rfl)
    (h3 : (backToKw pos (keywordEach [⟨some "default", b, kp⟩] X.env)).all (·.1.isSome) = true := by rfl) (h4 : (backToKw pos (keywordEach [⟨some "default", b, kp⟩] X.env)).any (·.1.isNone) = false := by rfl)
    (h5 : (backToKw pos (keywordEach [⟨some "default", b, kp⟩] X.env)).filterMap (·.1) = [("default" : Str)] := by rfl) :
    FP X (.Call (.Name "min" p) [a] [⟨some "default", b, kp⟩] pos) (e2 oMinD fa fb) := by
  obtain ⟨ta, pa, sa⟩ := ha
  obtain ⟨tb, pb, sb⟩ := hb
  refine ⟨_, pe_minD hc hm pa pb hg hs h1 h2 h3 h4 h5, fun H0 S z held ρ σ H Q d tg ok e k => ?_⟩
  obtain ⟨d1, t1, d2, t2, g1, g2, g3, rfl⟩ := e2_of e
  refine sa H0 S z held ρ σ H _ d1 t1 ok g1 fun H1 x f1 s1 r1 _ => ?_
  refine sb H0 S z held ρ σ H1 _ d2 t2 (ok.same s1) g2 fun H2 y f2 s2 r2 _ => ?_
  cases d1 with
  | lst ds =>
    obtain ⟨l, xs, f, rfl, hq, rs, _⟩ := (r1.same s2).lst_of
    have g3 : (match intsD ds with | some [] => if imm d2 = true then some d2 else none | some (n :: r) => some (.int (minI (n :: r))) | none => none) = some d := g3
    cases h : intsD ds with
    | none => rw [h] at g3; cases g3
    | some ns =>
      rw [h] at g3
      have ex := intsD_of rs h
      subst ex
      refine ⟨l, ns, rfl, hq, ?_⟩
      cases ns with
      | nil =>
        have g3 : (if imm d2 = true then some d2 else none) = some d := g3
        by_cases hi : imm d2 = true
        · rw [if_pos hi] at g3
          cases g3
          have hn := r2.imm hi
          subst hn
          exact .inl ⟨rfl, k H2 y [] (s1.trans s2) r2 .nil⟩
        · rw [if_neg hi] at g3; cases g3
      | cons n r =>
        cases g3
        refine .inr ⟨by simp, fun m hm1 hm2 => ?_⟩
        obtain ⟨q1, q2⟩ := minI_spec (l := n :: r) (by simp)
        have em : m = minI (n :: r) := Int.le_antisymm (hm2 _ q1) (q2 m hm1)
        rw [em]
        exact k H2 _ [] (s1.trans s2) (.int _) .nil
  | _ => cases g3
end
end L2.Ev
namespace L2.Ev
open PySem PySem.Spec PyProof.Rows
theorem pairs_rep {K : PySem.W.Frag} {H : Hp} : ∀ {ds : List D} {xs : List V} {fp : List Addr} {ps : List (Key × D)}, Reps K H ds xs fp → pairsD ds = some ps →
    ∃ qs : List (Key × V), Paired (fun y (q : Key × V) => ∃ a, y = .ref a ∧ SqT K H a [L2.kV q.1, q.2]) xs qs ∧ ps.map (·.1) = qs.map (·.1) ∧ Reps K H (ps.map (·.2)) (qs.map (·.2)) []
  | _, _, _, ps, .nil, e => by cases e; exact ⟨[], .nil, rfl, .nil⟩
  | _, _, _, ps, .cons (d := d) (ds := dr) h t, e => by
    unfold pairsD at e
    split at e
    · rename_i heq; cases heq
    · rename_i kd d' r heq
      cases heq
      cases h1 : keyD kd with
      | none => rw [h1] at e; cases e
      | some k =>
        cases h2 : pairsD dr with
        | none => rw [h1, h2] at e; cases e
        | some pr =>
          rw [h1, h2] at e
          dsimp only at e
          by_cases hi : imm d' = true
          · rw [if_pos hi] at e
            cases e
            obtain ⟨qs, a1, a2, a3⟩ := pairs_rep t h2
            obtain ⟨a, ys, rfl, hq, rs⟩ := h.tup_of
            cases rs with
            | cons rk rs =>
              cases rs with
              | cons rv rs =>
                cases rs with
                | nil =>
                  have ek := rk.key h1
                  subst ek
                  have hn := rv.imm hi
                  subst hn
                  exact ⟨(k, _) :: qs, .cons ⟨a, rfl, hq⟩ a1, by rw [List.map_cons, List.map_cons, a2], Reps.cons (f1 := []) (f2 := []) rv a3⟩
          · rw [if_neg hi] at e; cases e
    · cases e
theorem fold_rep {K : PySem.W.Frag} {H : Hp} : ∀ {ps : List (Key × D)} {qs : List (Key × V)} {es : List (Key × D)} {kvs : List (Key × V)}, ps.map (·.1) = qs.map (·.1) → Reps K H (ps.map (·.2)) (qs.map (·.2)) [] → es.map (·.1) = kvs.map (·.1) → Reps K H (es.map (·.2)) (kvs.map (·.2)) [] →
    (ps.foldl (fun m p => putD m p.1 p.2) es).map (·.1) = (qs.foldl (fun m q => putK m q.1 q.2) kvs).map (·.1) ∧ Reps K H ((ps.foldl (fun m p => putD m p.1 p.2) es).map (·.2)) ((qs.foldl (fun m q => putK m q.1 q.2) kvs).map (·.2)) []
  | [], [], _, _, _, _, h1, h2 => ⟨h1, h2⟩
  | [], _ :: _, _, _, e, _, _, _ => by simp at e
  | _ :: _, [], _, _, e, _, _, _ => by simp at e
  | (k, d) :: ps, (k', v) :: qs, es, kvs, e, r, h1, h2 => by
    simp only [List.map_cons, List.cons.injEq] at e
    obtain ⟨rfl, e⟩ := e
    simp only [List.map_cons] at r
    generalize hf : ([] : List Addr) = fp at r
    cases r with
    | @cons _ _ _ _ f1 f2 r1 r2 =>
      obtain ⟨z1, z2⟩ := List.append_eq_nil_iff.mp hf.symm
      subst z1 z2
      rw [List.foldl_cons, List.foldl_cons]
      exact fold_rep e r2 (putD_keys h1) (putD_reps h1 h2 r1)
theorem does_dict {K : PySem.W.Frag} : Does1 K (fun xs H Q => rDictOf K xs H Q ∨ ∃ a kvs, xs = [V.ref a] ∧ H a = some (.dK kvs) ∧ ∀ l, H l = none → Q (.ref l) (upd H l (.dK kvs))) oDict := by
  intro H x d1 f1 d Q r e k
  have fresh : ∀ {o : HO} {l : Addr}, H l = none → Same H (upd H l o) := fun hl b o e => by rw [upd_ne (ne_of_none e hl)]; exact e
  have nd1 : ∀ l : Addr, ([l] : List Addr).Nodup := fun l => List.nodup_cons.mpr ⟨(fun m => by cases m), List.nodup_nil⟩
  have seq : ∀ {ds : List D} {xs : List V} {f : List Addr} {p : Addr}, Reps K H ds xs f → (SqL K H p xs ∨ SqT K H p xs) → ((pairsD ds).map fun ps => D.dic (ps.foldl (fun m p => putD m p.1 p.2) [])) = some d → rDictOf K [.ref p] H Q := fun {ds xs f p} rs hq e => by
    cases h : pairsD ds with
    | none => rw [h] at e; cases e
    | some ps =>
      rw [h] at e
      cases e
      obtain ⟨qs, a1, a2, a3⟩ := pairs_rep rs h
      refine ⟨p, xs, qs, rfl, hq, a1, fun l hl => ?_⟩
      obtain ⟨b1, b2⟩ := fold_rep (es := []) (kvs := []) a2 a3 rfl .nil
      exact k _ _ [l] (fresh hl) (.dic upd_same b1 (b2.same (fresh hl))) (nd1 l) fun a m => by cases List.mem_singleton.mp m; exact hl
  cases d1 with
  | lst ds =>
    obtain ⟨a, xs, f, rfl, hq, rs, _⟩ := r.lst_of
    exact .inl (seq rs (.inl hq) e)
  | tup ds =>
    obtain ⟨a, xs, rfl, hq, rs⟩ := r.tup_of
    exact .inl (seq rs (.inr hq) e)
  | dic es =>
    cases r with
    | @dic a kvs _ fp h hk rs =>
      have e : (if immAll (es.map (·.2)) = true then some (D.dic es) else none) = some d := e
      by_cases hi : immAll (es.map (·.2)) = true
      · rw [if_pos hi] at e
        cases e
        have hn := rs.imm hi
        subst hn
        exact .inr ⟨a, kvs, rfl, h, fun l hl => k _ _ [l] (fresh hl) (.dic upd_same hk (rs.same (fresh hl))) (nd1 l) fun a m => by cases List.mem_singleton.mp m; exact hl⟩
      · rw [if_neg hi] at e; cases e
  | _ => cases e
section
variable {X : Cx} {a b : Expr} {fa fb : EF} {pos : Pos}
theorem call_dict_copy : CallR X (.type "dict") (fun xs H Q => ∃ a kvs, xs = [V.ref a] ∧ H a = some (.dK kvs) ∧ ∀ l, H l = none → Q (.ref l) (upd H l (.dK kvs))) := by
  intro pins s σ H xs us Q I r h
  obtain ⟨a, kvs, rfl, ha, q⟩ := h
  obtain ⟨u, rfl, ru⟩ := vals1 r
  cases ru
  exact d_copyOf I (.inl ha) fun p s' hp I' => ⟨.ref p, _, I', rfl, q p hp⟩
theorem fp_dict {p : Pos} (hc : X.calm = true) (hm : X.mg "dict" = none) (ha : FP X a fa) (hg : Gl X "dict" := by rfl) (hs : starEach [a] X.env = [(false, eval a X.env)] := by rfl) : FP X (.Call (.Name "dict" p) [a] [] pos) (e1 oDict fa) :=
  fp_1 does_dict ha fun ta pa => pe_callTy (CallR.or' (call_dictOf hc) call_dict_copy) hg hm (show bootBuiltins "dict" = some (.type "dict") by decide +kernel) (pa_cons pa pa_nil hs) (he := hs) (hpl := rfl)
def oTuple : D → Option D
  | .lst ds => if immAll ds = true then some (.tup ds) else none
  | .tup ds => if immAll ds = true then some (.tup ds) else none
  | _ => none
theorem does_tuple : Does1 X.K (fun xs H Q => ∃ p ys, xs = [V.ref p] ∧ ((SqL X.K H p ys ∧ ∀ l, H l = none → Q (.ref l) (upd H l (.tup ys))) ∨ (SqT X.K H p ys ∧ Q (.ref p) H))) oTuple := by
  intro H x d1 f1 d Q r e k
  cases d1 with
  | lst ds =>
    obtain ⟨a, xs, f, rfl, hq, rs, _⟩ := r.lst_of
    have e : (if immAll ds = true then some (D.tup ds) else none) = some d := e
    by_cases hi : immAll ds = true
    · rw [if_pos hi] at e
      cases e
      have hn := rs.imm hi
      subst hn
      refine ⟨a, xs, rfl, .inl ⟨hq, fun l hl => ?_⟩⟩
      have s2 : Same H (upd H l (.tup xs)) := fun b o e => by rw [upd_ne (ne_of_none e hl)]; exact e
      exact k _ _ [] s2 (.tup (SqT.of upd_same) (rs.same s2)) List.nodup_nil fun a m => nomatch m
    · rw [if_neg hi] at e; cases e
  | tup ds =>
    obtain ⟨a, xs, rfl, hq, rs⟩ := r.tup_of
    have e : (if immAll ds = true then some (D.tup ds) else none) = some d := e
    by_cases hi : immAll ds = true
    · rw [if_pos hi] at e
      cases e
      have hn := rs.imm hi
      subst hn
      exact ⟨a, xs, rfl, .inr ⟨hq, k H _ [] (Same.refl H) (.tup hq rs) List.nodup_nil fun a m => nomatch m⟩⟩
    · rw [if_neg hi] at e; cases e
  | _ => cases e
theorem fp_tuple {p : Pos} (hm : X.mg "tuple" = none) (ha : FP X a fa) (hg : Gl X "tuple" := by rfl) (hs : starEach [a] X.env = [(false, eval a X.env)] := by rfl) : FP X (.Call (.Name "tuple" p) [a] [] pos) (e1 oTuple fa) :=
  fp_1 does_tuple ha fun ta pa => pe_callTy call_tuple_of hg hm (show bootBuiltins "tuple" = some (.type "tuple") by decide +kernel) (pa_cons pa pa_nil hs) (he := hs) (hpl := rfl)
end
mutual
def eqD : D → D → Option Bool
  | .int i, .int j => some (i == j)
  | .bl i, .bl j => some (i == j)
  | .str i, .str j => some (i == j)
  | .non, .non => some true
  | .tup a, .tup b => eqDs a b
  | .lst a, .lst b => eqDs a b
  | _, _ => none
def eqDs : List D → List D → Option Bool
  | [], [] => some true
  | x :: xs, y :: ys => match eqD x y, eqDs xs ys with
    | some p, some q => some (p && q)
    | _, _ => none
  | _, _ => some false
end
mutual
def dep : D → Nat
  | .tup a => deps a + 1
  | .lst a => deps a + 1
  | _ => 0
def deps : List D → Nat
  | [] => 0
  | x :: xs => max (dep x) (deps xs)
end
section
variable {X : Cx} {pins : List (Addr × Obj)} {σ : St} {H : Hp} {s : Shared}
mutual
theorem eqD_det (I : Inv X pins σ H s) : ∀ {d1 d2 : D} {v : V} {f1 f2 : List Addr} {b : Bool}, Rep X.K H d1 v f1 → Rep X.K H d2 v f2 → eqD d1 d2 = some b → b = true
  | .int i, d2, v, _, _, b, r1, r2, e => by cases r1; cases r2; unfold eqD at e; cases e; exact beq_self_eq_true i
  | .bl i, d2, v, _, _, b, r1, r2, e => by cases r1; cases r2; unfold eqD at e; cases e; exact beq_self_eq_true i
  | .str i, d2, v, _, _, b, r1, r2, e => by cases r1; cases r2; unfold eqD at e; cases e; exact beq_self_eq_true i
  | .non, d2, v, _, _, b, r1, r2, e => by cases r1; cases r2; unfold eqD at e; cases e; rfl
  | .tup a, d2, v, _, _, b, r1, r2, e => by
    cases d2 with
    | tup c =>
      unfold eqD at e
      obtain ⟨p, xs, rfl, hq, rs⟩ := r1.tup_of
      obtain ⟨p', ys, ep, hq', rs'⟩ := r2.tup_of
      cases ep
      have ex := I.tuple_inj hq hq'
      subst ex
      exact eqDs_det I rs rs' e
    | _ => unfold eqD at e; cases e
  | .lst a, d2, v, _, _, b, r1, r2, e => by
    cases d2 with
    | lst c =>
      unfold eqD at e
      obtain ⟨p, xs, f, rfl, hq, rs, _⟩ := r1.lst_of
      obtain ⟨p', ys, f', ep, hq', rs', _⟩ := r2.lst_of
      cases ep
      have ex := I.list_inj hq hq'
      subst ex
      exact eqDs_det I rs rs' e
    | _ => unfold eqD at e; cases e
  | .fls _, d2, v, _, _, b, _, _, e => by unfold eqD at e; cases e
  | .dic _, d2, v, _, _, b, _, _, e => by unfold eqD at e; cases e
  | .dit _, d2, v, _, _, b, _, _, e => by unfold eqD at e; cases e
  | .ins _ _, d2, v, _, _, b, _, _, e => by unfold eqD at e; cases e
theorem eqDs_det (I : Inv X pins σ H s) : ∀ {a c : List D} {xs : List V} {f1 f2 : List Addr} {b : Bool}, Reps X.K H a xs f1 → Reps X.K H c xs f2 → eqDs a c = some b → b = true
  | [], c, _, _, _, b, r1, r2, e => by cases r1; cases r2; unfold eqDs at e; cases e; rfl
  | x :: a, [], _, _, _, b, r1, r2, e => by cases r1; cases r2
  | x :: a, y :: c, _, _, _, b, r1, r2, e => by
    cases r1 with
    | cons h1 t1 =>
      cases r2 with
      | cons h2 t2 =>
        unfold eqDs at e
        cases q1 : eqD x y with
        | none => rw [q1] at e; cases e
        | some p =>
          cases q2 : eqDs a c with
          | none => rw [q1, q2] at e; cases e
          | some q =>
            rw [q1, q2] at e
            cases e
            rw [eqD_det I h1 h2 q1, eqDs_det I t1 t2 q2]; rfl
end
def scopeOk (N : List Str) (osc sc : Scope) (M : List Str) (js : List (Option Nat)) : Bool :=
  (sc.kind == .function) && sc.names.all (fun y => y.2 != .cell) && sc.names.all (fun y => if y.2 == .local then sc.names.lookup y.1 == some .local else true) && capOk N sc M js && (frees sc).all (fun x => osc.names.lookup x == some .cell || osc.names.lookup x == some .free) && decide M.Nodup
theorem compScope_mk {X : Cx} {N : List Str} {osc sc : Scope} {M : List Str} {js : List (Option Nat)} (h1 : X.N = N) (h2 : X.env.scope = osc) (h3 : X.env.kindOf = fun x => osc.names.lookup x) (h : scopeOk N osc sc M js = true) : CompScope X M js sc := by
  unfold scopeOk at h
  obtain ⟨h, a6⟩ := (Bool.and_eq_true _ _).mp h
  obtain ⟨h, a5⟩ := (Bool.and_eq_true _ _).mp h
  obtain ⟨h, a4⟩ := (Bool.and_eq_true _ _).mp h
  obtain ⟨h, a3⟩ := (Bool.and_eq_true _ _).mp h
  obtain ⟨a1, a2⟩ := (Bool.and_eq_true _ _).mp h
  refine ⟨?_, fun y hy => ?_, fun y hy hl => ?_, ?_, fun x hx => ?_, of_decide_eq_true a6⟩
  · cases hk : sc.kind <;> rw [hk] at a1 <;> first | rfl | exact absurd a1 (by decide)
  · have := List.all_eq_true.mp a2 y hy
    intro z
    rw [z] at this
    exact absurd this (by decide)
  · have := List.all_eq_true.mp a3 y hy
    rw [hl] at this
    have this : (sc.names.lookup y.1 == some NameKind.local) = true := this
    cases q : sc.names.lookup y.1 with
    | none => rw [q] at this; exact absurd this (by decide)
    | some k => rw [q] at this; cases k <;> first | rfl | exact absurd this (by decide)
  · rw [h1]; exact a4
  · have := List.all_eq_true.mp a5 x hx
    rw [h3]
    dsimp only
    cases q : osc.names.lookup x with
    | none => rw [q] at this; exact absurd this (by decide)
    | some k => rw [q] at this; cases k <;> first | exact .inl rfl | exact .inr rfl | exact absurd this (by decide)
end
section
variable {X : Cx} {pos : Pos}
def sLset (i : Nat) (fk fv : EF) : SF := fun ρ => match fv ρ, ρ[i]?, fk ρ with
  | some (d, _), some (some (.lst ds, .own)), some (.int k, _) => match ixN ds.length k with
    | some j => if (imm d && immAll ds) = true then some (.nx (mutS ρ i (.lst (ds.set j d)))) else none
    | none => none
  | _, _, _ => none
theorem immAll_nth : ∀ {ds : List D} {j : Nat} {d : D}, immAll ds = true → imm d = true → immAll (ds.set j d) = true
  | [], _, _, _, _ => rfl
  | x :: ds, 0, d, h, hd => by
    unfold immAll at h ⊢
    obtain ⟨_, b⟩ := (Bool.and_eq_true _ _).mp h
    exact (Bool.and_eq_true _ _).mpr ⟨hd, b⟩
  | x :: ds, j + 1, d, h, hd => by
    unfold immAll at h
    obtain ⟨a, b⟩ := (Bool.and_eq_true _ _).mp h
    show (imm x && immAll (ds.set j d)) = true
    exact (Bool.and_eq_true _ _).mpr ⟨a, immAll_nth b hd⟩
theorem Reps.setN {K : PySem.W.Frag} {H : Hp} {d : D} {v : V} (rv : Rep K H d v []) : ∀ {ds : List D} {xs : List V} {j : Nat}, Reps K H ds xs [] → Reps K H (ds.set j d) (xs.set j v) []
  | [], _, _, r => by cases r; exact .nil
  | x :: ds, xs, j, r => by
    generalize hf : ([] : List Addr) = fp at r
    cases r with
    | @cons _ _ _ _ f1 f2 r1 r2 =>
      obtain ⟨z1, z2⟩ := List.append_eq_nil_iff.mp hf.symm
      subst z1 z2
      cases j with
      | zero => exact Reps.cons (f1 := []) (f2 := []) rv r2
      | succ j => exact Reps.cons (f1 := []) (f2 := []) r1 (Reps.setN rv r2)
theorem fs_lset (i : Nat) {x : Str} {k v : Expr} {fk fv : EF} {p1 pos' : Pos} (hk : FP X k fk) (hv : FP X v fv) (hN : X.N[i]? = some x := by rfl) (hvis : Vis X.env.scope x := by first | exact Or.inl rfl | exact Or.inr (Or.inl rfl) | exact Or.inr (Or.inr rfl))
    (hd : (x == ("__debug__" : Str)) = false := by decide) (hcd : (x == ("__classdict__" : Str)) = false := by decide)
    (ha : ∀ w, assign (.Subscript (.Name x p1) k pos') X.env w = (do
      let ov ← holding [w] (eval (.Name x p1) X.env)
      let iv ← holding [w, ov] (eval k X.env)
      standAt pos'
      holding [w, ov, iv] (setItem ov iv w)
      release [w, ov, iv] []) := by intro _; rfl)
    (hs : swapsWithSole [.Subscript (.Name x p1) k pos'] v pos.line X.env = pure false := by rfl) (hw : swappedStores [.Subscript (.Name x p1) k pos'] v X.env = pure none := by rfl) (h1 : (assignEach [.Subscript (.Name x p1) k pos'] X.env).map (·.2) = [assign (.Subscript (.Name x p1) k pos') X.env] := by rfl) :
    FS1 X (.Assign [.Subscript (.Name x p1) k pos'] v pos) (sLset i fk fv) := by
  obtain ⟨tk, pk, sk⟩ := hk
  obtain ⟨tv, pv', sv⟩ := hv
  refine ⟨_, ps_asg pv' (pg_sub (pe_var (i := i) hN hvis hd hcd) pk set_list ha) hs hw h1, fun H0 S z held ρ σ H E o ok e q => ?_⟩
  unfold sLset at e
  split at e
  · rename_i d td ds kk tkk g1 g2 g3
    cases hj : ixN ds.length kk with
    | none => rw [hj] at e; cases e
    | some j =>
      rw [hj] at e
      dsimp only at e
      by_cases hc : (imm d && immAll ds) = true
      · rw [if_pos hc] at e
        cases e
        obtain ⟨c1, c2⟩ := (Bool.and_eq_true _ _).mp hc
        refine sv H0 S z held ρ σ H _ d td ok g1 fun H1 v fv' s1 rv _ => ?_
        obtain ⟨xv, fp, hs', r, zz⟩ := (ok.same s1).sl i _ _ g2
        refine ⟨xv, hs', ?_⟩
        refine sk H0 S z held ρ σ H1 _ _ tkk (ok.same s1) g3 fun H2 y fk' s2 rk _ => ?_
        cases rk
        have r' := r.same s2
        have ok2 := (ok.same s1).same s2
        cases r' with
        | @lst a xs _ f h rs =>
          have hn := rs.imm c2
          subst hn
          have hnv := rv.imm c1
          subst hnv
          refine ⟨a, xs, kk, j, rfl, rfl, h, by rw [← rs.length]; exact hj, ?_⟩
          have im : Imm H2 (upd H2 a (.lst (xs.set j v))) := Imm.upd h rfl
          refine q z σ _ (Ok.mutate ok2 g2 hs' zz List.mem_cons_self h rfl (.lst upd_same ?_))
          exact Reps.setN ((rv.same s2).frame (fun a m => nomatch m) im) (rs.frame (fun a m => nomatch m) im)
      · rw [if_neg hc] at e; cases e
  · cases e
end
end L2.Ev
namespace L2.Ev
open PySem PySem.Spec PyProof.Rows
def eqJ (a c : List D) (j : Nat) : Bool := match a[j]?, c[j]? with
  | some x, some y => (eqD x y).getD false
  | _, _ => false
theorem eqDs_len : ∀ {a c : List D} {b : Bool}, eqDs a c = some b → a.length ≠ c.length → b = false
  | [], [], _, _, h => absurd rfl h
  | [], _ :: _, b, e, _ => by unfold eqDs at e; cases e; rfl
  | _ :: _, [], b, e, _ => by unfold eqDs at e; cases e; rfl
  | x :: a, y :: c, b, e, h => by
    unfold eqDs at e
    cases q1 : eqD x y with
    | none => rw [q1] at e; cases e
    | some p =>
      cases q2 : eqDs a c with
      | none => rw [q1, q2] at e; cases e
      | some q =>
        rw [q1, q2] at e
        cases e
        rw [eqDs_len q2 (fun z => h (by rw [List.length_cons, List.length_cons, z])), Bool.and_false]
theorem eqDs_at : ∀ {a c : List D} {b : Bool}, eqDs a c = some b → (∀ (j : Nat) x y, a[j]? = some x → c[j]? = some y → eqD x y = some (eqJ a c j)) ∧ (a.length = c.length → (List.range a.length).all (eqJ a c) = b)
  | [], [], b, e => by unfold eqDs at e; cases e; exact ⟨fun j x y h => by simp at h, fun _ => rfl⟩
  | [], _ :: _, _, _ => ⟨fun j x y h => by simp at h, fun h => by simp at h⟩
  | _ :: _, [], _, _ => ⟨fun j x y _ h => by simp at h, fun h => by simp at h⟩
  | x :: a, y :: c, b, e => by
    unfold eqDs at e
    cases q1 : eqD x y with
    | none => rw [q1] at e; cases e
    | some p =>
      cases q2 : eqDs a c with
      | none => rw [q1, q2] at e; cases e
      | some q =>
        rw [q1, q2] at e
        cases e
        obtain ⟨i1, i2⟩ := eqDs_at q2
        refine ⟨fun j x' y' h1 h2 => ?_, fun h => ?_⟩
        · cases j with
          | zero =>
            cases Option.some.inj h1
            cases Option.some.inj h2
            unfold eqJ
            simp [q1]
          | succ j => exact i1 j x' y' (by simpa using h1) (by simpa using h2)
        · rw [List.length_cons, List.range_succ_eq_map, List.all_cons, List.all_map]
          have e0 : eqJ (x :: a) (y :: c) 0 = p := by unfold eqJ; simp [q1]
          rw [e0, ← i2 (by simpa using h)]
          rfl
section
variable {X : Cx} {pins : List (Addr × Obj)} {σ : St} {H : Hp} {s : Shared}
theorem deps_at : ∀ {a : List D} {j : Nat} {x : D} {n : Nat}, deps a ≤ n → a[j]? = some x → dep x ≤ n
  | [], _, _, _, _, e => by simp at e
  | y :: a, 0, x, n, h, e => by
    cases Option.some.inj e
    unfold deps at h
    exact Nat.le_trans (Nat.le_max_left _ _) h
  | y :: a, j + 1, x, n, h, e => by
    unfold deps at h
    exact deps_at (Nat.le_trans (Nat.le_max_right _ _) h) (by simpa using e)
theorem Vals.getA {xs : List V} {us : List Value} (r : Vals xs us) {j : Nat} (hj : j < us.toArray.size) : ∃ v, xs[j]? = some v ∧ RelV v us.toArray[j] := by
  have hl : j < xs.length := by rw [r.length]; simpa using hj
  obtain ⟨u, hu, ru⟩ := r.get (List.getElem?_eq_getElem hl)
  refine ⟨_, List.getElem?_eq_getElem hl, ?_⟩
  have : us[j]? = some us.toArray[j] := by simp
  rw [this] at hu
  rw [Option.some.inj hu]
  exact ru
theorem in1_units (A : Around) : A.in1.units = A.units + 1 := by first | rfl | simp [Around.in1]
theorem eq_items (I : Inv X pins σ H s) {n : Nat} {A : Around} {a c : List D} {xs ys : List V} {us ws : List Value} {f1 f2 : List Addr}
    (ih : ∀ {d1 d2 : D} {v1 v2 : V} {u1 u2 : Value} {f1 f2 : List Addr} {b : Bool}, dep d1 ≤ n → Rep X.K H d1 v1 f1 → Rep X.K H d2 v2 f2 → RelV v1 u1 → RelV v2 u2 → eqD d1 d2 = some b → SeqAt.EqAt A.in1 s u1 u2 b)
    (hd : deps a ≤ n) (r1 : Reps X.K H a xs f1) (r2 : Reps X.K H c ys f2) (q1 : Vals xs us) (q2 : Vals ys ws) (hat : ∀ (j : Nat) x y, a[j]? = some x → c[j]? = some y → eqD x y = some (eqJ a c j)) :
    ∀ j (h1 : j < us.toArray.size) (h2 : j < ws.toArray.size), SeqAt.EqAt A.in1 s us.toArray[j] ws.toArray[j] (eqJ a c j) := by
  intro j h1 h2
  obtain ⟨v1, e1, rv1⟩ := Vals.getA q1 h1
  obtain ⟨v2, e2, rv2⟩ := Vals.getA q2 h2
  have la : j < a.length := by rw [r1.length]; exact (List.getElem?_eq_some_iff.mp e1).1
  have lc : j < c.length := by rw [r2.length]; exact (List.getElem?_eq_some_iff.mp e2).1
  obtain ⟨w1, g1, k1, t1, _⟩ := r1.get (List.getElem?_eq_getElem la)
  obtain ⟨w2, g2, k2, t2, _⟩ := r2.get (List.getElem?_eq_getElem lc)
  rw [e1] at k1
  rw [e2] at k2
  cases k1
  cases k2
  exact ih (deps_at hd (List.getElem?_eq_getElem la)) t1 t2 rv1 rv2 (hat j _ _ (List.getElem?_eq_getElem la) (List.getElem?_eq_getElem lc))
theorem rc_seq (I : Inv X pins σ H s) {n : Nat} {A : Around} {d1 d2 : D} {p q : Addr} {f1 f2 : List Addr} {b : Bool}
    (ih : ∀ {d1 d2 : D} {v1 v2 : V} {u1 u2 : Value} {f1 f2 : List Addr} {b : Bool}, dep d1 ≤ n → Rep X.K H d1 v1 f1 → Rep X.K H d2 v2 f2 → RelV v1 u1 → RelV v2 u2 → eqD d1 d2 = some b → SeqAt.EqAt A.in1 s u1 u2 b)
    (hd : dep d1 ≤ n + 1) (hu : A.units < cLine) (r1 : Rep X.K H d1 (.ref p) f1) (r2 : Rep X.K H d2 (.ref q) f2) (e : eqD d1 d2 = some b) : SeqAt.RcAt A s (.ref p) (.ref q) b := by
  cases d1 with
  | lst a =>
    cases d2 with
    | lst c =>
      have hd' : deps a ≤ n := by unfold dep at hd; omega
      unfold eqD at e
      obtain ⟨p', xs, g1, ep, hq, rs, _⟩ := r1.lst_of
      cases ep
      obtain ⟨q', ys, g2, eq, hq', rs', _⟩ := r2.lst_of
      cases eq
      obtain ⟨us, v1, pl1, _⟩ := I.list hq
      obtain ⟨ws, v2, pl2, _⟩ := I.list hq'
      have l1 : us.toArray.size = a.length := by rw [List.size_toArray, ← v1.length, ← rs.length]
      have l2 : ws.toArray.size = c.length := by rw [List.size_toArray, ← v2.length, ← rs'.length]
      by_cases hl : a.length = c.length
      · obtain ⟨h1, h2⟩ := eqDs_at e
        have h2 := h2 hl
        have k := SeqAt.RcAt.lists (A := A) (s := s) (e := eqJ a c) pl1.isList pl2.isList (by rw [l1, l2, hl]) hu (eq_items I ih hd' rs rs' v1 v2 h1)
        rw [l1, h2] at k
        exact k
      · rw [eqDs_len e hl]
        exact SeqAt.RcAt.lists_lengths pl1.isList pl2.isList (by rw [l1, l2]; exact bne_iff_ne.mpr hl) hu
    | _ => unfold eqD at e; cases e
  | tup a =>
    cases d2 with
    | tup c =>
      have hd' : deps a ≤ n := by unfold dep at hd; omega
      unfold eqD at e
      obtain ⟨p', xs, ep, hq, rs⟩ := r1.tup_of
      cases ep
      obtain ⟨q', ys, eq, hq', rs'⟩ := r2.tup_of
      cases eq
      obtain ⟨us, v1, pl1, _⟩ := I.tuple hq
      obtain ⟨ws, v2, pl2, _⟩ := I.tuple hq'
      have l1 : us.toArray.size = a.length := by rw [List.size_toArray, ← v1.length, ← rs.length]
      have l2 : ws.toArray.size = c.length := by rw [List.size_toArray, ← v2.length, ← rs'.length]
      obtain ⟨h1, h2⟩ := eqDs_at e
      have k := SeqAt.RcAt.tuples (A := A) (s := s) (e := eqJ a c) pl1 pl2 hu (eq_items I ih hd' rs rs' v1 v2 h1)
      by_cases hl : a.length = c.length
      · rw [l1, l2, ← hl, Nat.min_self, h2 hl, beq_self_eq_true, Bool.and_true] at k
        exact k
      · rw [l1, l2, beq_eq_false_iff_ne.mpr hl, Bool.and_false] at k
        rw [eqDs_len e hl]
        exact k
    | _ => unfold eqD at e; cases e
  | _ => first | (cases r1; done) | (unfold eqD at e; cases d2 <;> cases e)
theorem eq_at (I : Inv X pins σ H s) : ∀ (n : Nat) {A : Around} {d1 d2 : D} {v1 v2 : V} {u1 u2 : Value} {f1 f2 : List Addr} {b : Bool}, dep d1 ≤ n → A.units + n < cLine → Rep X.K H d1 v1 f1 → Rep X.K H d2 v2 f2 → RelV v1 u1 → RelV v2 u2 → eqD d1 d2 = some b →
    SeqAt.EqAt A s u1 u2 b := by
  have flat : ∀ {A : Around} {d1 d2 : D} {v1 v2 : V} {u1 u2 : Value} {f1 f2 : List Addr} {b : Bool}, dep d1 = 0 → Rep X.K H d1 v1 f1 → Rep X.K H d2 v2 f2 → RelV v1 u1 → RelV v2 u2 → eqD d1 d2 = some b → SeqAt.EqAt A s u1 u2 b := by
    intro A d1 d2 v1 v2 u1 u2 f1 f2 b hd r1 r2 q1 q2 e
    cases d1 with
    | int i =>
      cases d2 with
      | int j =>
        unfold eqD at e
        cases e
        cases r1
        cases r2
        obtain ⟨t, rfl⟩ := q1
        obtain ⟨t', rfl⟩ := q2
        exact SeqAt.EqAt.int_int i t j t'
      | _ => unfold eqD at e; cases e
    | bl i =>
      cases d2 with
      | bl j =>
        unfold eqD at e
        cases e
        cases r1
        cases r2
        cases q1
        cases q2
        exact SeqAt.EqAt.bool_bool i j
      | _ => unfold eqD at e; cases e
    | str i =>
      cases d2 with
      | str j =>
        unfold eqD at e
        cases e
        cases r1
        cases r2
        obtain ⟨t, rfl⟩ := q1
        obtain ⟨t', rfl⟩ := q2
        exact SeqAt.EqAt.str_str i t j t'
      | _ => unfold eqD at e; cases e
    | non =>
      cases d2 with
      | non =>
        unfold eqD at e
        cases e
        cases r1
        cases r2
        cases q1
        cases q2
        exact SeqAt.EqAt.same _
      | _ => unfold eqD at e; cases e
    | tup a => unfold dep at hd; omega
    | lst a => unfold dep at hd; omega
    | _ => unfold eqD at e; cases e
  intro n
  induction n with
  | zero => intro A d1 d2 v1 v2 u1 u2 f1 f2 b hd hu r1 r2 q1 q2 e; exact flat (by omega) r1 r2 q1 q2 e
  | succ n ih =>
    intro A d1 d2 v1 v2 u1 u2 f1 f2 b hd hu r1 r2 q1 q2 e
    by_cases hz : dep d1 = 0
    · exact flat hz r1 r2 q1 q2 e
    · have ref : ∀ {d : D} {v : V} {f : List Addr}, Rep X.K H d v f → dep d ≠ 0 → ∃ p, v = .ref p := fun {d v f} r h => by
        cases r <;> first | exact ⟨_, rfl⟩ | (exact absurd rfl h)
      obtain ⟨p, rfl⟩ := ref r1 hz
      have r2' : ∃ q, v2 = .ref q := by
        cases d1 with
        | tup a =>
          cases d2 with
          | tup c => obtain ⟨q, _, eq, _⟩ := r2.tup_of; exact ⟨q, eq⟩
          | _ => unfold eqD at e; cases e
        | lst a =>
          cases d2 with
          | lst c => obtain ⟨q, _, _, eq, _⟩ := r2.lst_of; exact ⟨q, eq⟩
          | _ => unfold eqD at e; cases e
        | _ => exact absurd rfl hz
      obtain ⟨q, rfl⟩ := r2'
      cases q1
      cases q2
      by_cases hpq : p = q
      · subst hpq
        rw [eqD_det I r1 r2 e]
        exact SeqAt.EqAt.same _
      · exact SeqAt.EqAt.of_refs hpq (rc_seq I (A := A) (n := n) (fun hd r1 r2 q1 q2 e => ih hd (by rw [in1_units]; omega) r1 r2 q1 q2 e) hd (by omega) r1 r2 e)
def rEqD (K : PySem.W.Frag) (neg : Bool) : R2 := fun x y H Q => ∃ d1 d2 f1 f2 b, Rep K H d1 x f1 ∧ Rep K H d2 y f2 ∧ eqD d1 d2 = some b ∧ dep d1 ≤ 30 ∧ dep d1 ≠ 0 ∧ Q (.bl (if neg then !b else b)) H
def oEqD (d1 d2 : D) : Option D := if (decide (dep d1 ≤ 30) && decide (dep d1 ≠ 0)) = true then (eqD d1 d2).map D.bl else none
end
end L2.Ev
namespace L2.Ev
open PySem PySem.Spec PyProof.Rows
theorem TagOk.back {z : Addr → Option Nat} {H H1 : Hp} {t : Tag} {fp : List Addr} (g : TagOk z H1 t fp) (s : Same H H1) : TagOk z H t fp := by
  cases t with
  | sh o => exact g
  | own => exact ⟨g.1, fun a m => s.free (g.2 a m)⟩
  | lk => exact ⟨g.1, fun a m => s.free (g.2 a m)⟩
section
variable {X : Cx} {a b : Expr} {fa fb : EF} {pos : Pos}
theorem op_eqD (hu : X.A.units + 64 < cLine) : OpR X (compareOp .Eq) (rEqD X.K false) := by
  intro pins s σ H x y v u Q I rx ry h
  obtain ⟨d1, d2, f1, f2, bb, r1, r2, e, h30, h0, q⟩ := h
  have k : SeqAt.RcAt X.A s v u bb := by
    have ref1 : ∃ p, x = .ref p := by cases r1 <;> first | exact ⟨_, rfl⟩ | exact absurd rfl h0
    obtain ⟨p, rfl⟩ := ref1
    have ref2 : ∃ q, y = .ref q := by
      cases d1 with
      | tup a =>
        cases d2 with
        | tup c => obtain ⟨q, _, eq, _⟩ := r2.tup_of; exact ⟨q, eq⟩
        | _ => unfold eqD at e; cases e
      | lst a =>
        cases d2 with
        | lst c => obtain ⟨q, _, _, eq, _⟩ := r2.lst_of; exact ⟨q, eq⟩
        | _ => unfold eqD at e; cases e
      | _ => exact absurd rfl h0
    obtain ⟨q', rfl⟩ := ref2
    cases rx
    cases ry
    exact rc_seq I (A := X.A) (n := 30) (fun hd r1 r2 q1 q2 e => eq_at I 30 hd (by rw [in1_units]; omega) r1 r2 q1 q2 e) (by omega) (by omega) r1 r2 e
  exact k X.prog X.w X.xe _ ⟨.bl bb, H, I, rfl, q⟩
theorem does_eqD {K : PySem.W.Frag} : Does2 K (rEqD K false) oEqD := by
  intro H x y d1 d2 f1 f2 d Q r1 r2 e k
  unfold oEqD at e
  by_cases hc : (decide (dep d1 ≤ 30) && decide (dep d1 ≠ 0)) = true
  · rw [if_pos hc] at e
    obtain ⟨c1, c2⟩ := (Bool.and_eq_true _ _).mp hc
    cases he : eqD d1 d2 with
    | none => rw [he] at e; cases e
    | some bb =>
      rw [he] at e
      cases e
      exact ⟨d1, d2, f1, f2, bb, r1, r2, he, of_decide_eq_true c1, of_decide_eq_true c2, k H _ (Same.refl H) (.bl _)⟩
  · rw [if_neg hc] at e; cases e
theorem fp_eqD (hu : X.A.units + 64 < cLine) (ha : FP X a fa) (hb : FP X b fb) : FP X (.Compare a [.Eq] [b] pos) (e2 oEqD fa fb) := fp_cmp (op_eqD hu) does_eqD ha hb (nomark _)
theorem ft_eqD (hu : X.A.units + 64 < cLine) (ha : FP X a fa) (hb : FP X b fb) : FT X (.Compare a [.Eq] [b] pos) (tV (e2 oEqD fa fb)) := ft_cmp (op_eqD hu) does_eqD ha hb (nomark _)
def eAnd (fa fb : EF) : EF := fun ρ => match fa ρ with
  | some (.bl true, _) => fb ρ
  | some (.bl false, _) => some (.bl false, .own)
  | _ => none
def eOr (fa fb : EF) : EF := fun ρ => match fa ρ with
  | some (.bl true, _) => some (.bl true, .own)
  | some (.bl false, _) => fb ρ
  | _ => none
def oNot : D → Option D
  | .bl b => some (.bl (!b))
  | _ => none
theorem fp_one {op} (h : FP X a fa) : FP X (.BoolOp op [a] pos) fa := let ⟨t, p, q⟩ := h; ⟨t, pe_one p, q⟩
theorem fp_and {rest : List Expr} (ha : FP X a fa) (hb : FP X (.BoolOp .And (b :: rest) pos) fb) : FP X (.BoolOp .And (a :: b :: rest) pos) (eAnd fa fb) := by
  obtain ⟨t, p, q⟩ := ha
  obtain ⟨t', p', q'⟩ := hb
  refine ⟨_, pe_and p p', fun H0 S z held ρ σ H Q d tg ok e k => ?_⟩
  unfold eAnd at e
  split at e
  · rename_i tt h
    refine q H0 S z held ρ σ H _ _ tt ok h fun H1 v fp s1 r1 _ => ?_
    cases r1
    refine ⟨true, rfl, ?_⟩
    rw [if_pos rfl]
    exact q' H0 S z held ρ σ H1 _ d tg (ok.same s1) e fun H2 v fp s2 r2 g2 => k H2 v fp (s1.trans s2) r2 (g2.back s1)
  · rename_i tt h
    cases e
    refine q H0 S z held ρ σ H _ _ tt ok h fun H1 v fp s1 r1 _ => ?_
    cases r1
    refine ⟨false, rfl, ?_⟩
    rw [if_neg Bool.false_ne_true]
    exact k H1 _ [] s1 (.bl _) .nil
  · cases e
theorem fp_or {rest : List Expr} (ha : FP X a fa) (hb : FP X (.BoolOp .Or (b :: rest) pos) fb) : FP X (.BoolOp .Or (a :: b :: rest) pos) (eOr fa fb) := by
  obtain ⟨t, p, q⟩ := ha
  obtain ⟨t', p', q'⟩ := hb
  refine ⟨_, pe_or p p', fun H0 S z held ρ σ H Q d tg ok e k => ?_⟩
  unfold eOr at e
  split at e
  · rename_i tt h
    cases e
    refine q H0 S z held ρ σ H _ _ tt ok h fun H1 v fp s1 r1 _ => ?_
    cases r1
    refine ⟨true, rfl, ?_⟩
    rw [if_pos rfl]
    exact k H1 _ [] s1 (.bl _) .nil
  · rename_i tt h
    refine q H0 S z held ρ σ H _ _ tt ok h fun H1 v fp s1 r1 _ => ?_
    cases r1
    refine ⟨false, rfl, ?_⟩
    rw [if_neg Bool.false_ne_true]
    exact q' H0 S z held ρ σ H1 _ d tg (ok.same s1) e fun H2 v fp s2 r2 g2 => k H2 v fp (s1.trans s2) r2 (g2.back s1)
  · cases e
theorem fp_not (ha : FP X a fa) : FP X (.UnaryOp .Not a pos) (e1 oNot fa) := by
  obtain ⟨t, p, q⟩ := ha
  refine ⟨_, pe_not p, fun H0 S z held ρ σ H Q d tg ok e k => ?_⟩
  obtain ⟨d1, t1, h1, h2, rfl⟩ := e1_of e
  refine q H0 S z held ρ σ H _ d1 t1 ok h1 fun H1 v fp s1 r1 _ => ?_
  cases r1 <;> cases h2
  exact ⟨_, rfl, k H1 _ [] s1 (.bl _) .nil⟩
end
end L2.Ev
namespace L2.Ev
open PySem PySem.Spec PyProof.Rows
section
variable {X : Cx} {a b : Expr} {fa fb : EF} {pos : Pos}
def oCat : D → D → Option D
  | .lst ds, .lst es => if (immAll ds && immAll es && decide (ds.length + es.length ≤ sizeLine)) = true then some (.lst (ds ++ es)) else none
  | _, _ => none
theorem fp_cat (ha : FP X a fa) (hb : FP X b fb) : FP X (.BinOp a .Add b pos) (e2 oCat fa fb) := by
  obtain ⟨ta, pa, sa⟩ := ha
  obtain ⟨tb, pb, sb⟩ := hb
  refine ⟨_, pe_op op_cat pa pb, fun H0 S z held ρ σ H Q d tg ok e q => ?_⟩
  obtain ⟨d1, t1, d2, t2, e1, e2', e3, rfl⟩ := e2_of e
  refine sa H0 S z held ρ σ H _ d1 t1 ok e1 fun H1 x f1 s1 r1 _ => ?_
  refine sb H0 S z held ρ σ H1 _ d2 t2 (ok.same s1) e2' fun H2 y f2 s2 r2 _ => ?_
  have r1' := r1.same s2
  cases r1' with
  | @lst p xs ds f h rs =>
    cases r2 with
    | @lst p' ys es f' h' rs' =>
      have e3 : (if (immAll ds && immAll es && decide (ds.length + es.length ≤ sizeLine)) = true then some (D.lst (ds ++ es)) else none) = some d := e3
      by_cases hc : (immAll ds && immAll es && decide (ds.length + es.length ≤ sizeLine)) = true
      · rw [if_pos hc] at e3
        cases e3
        obtain ⟨c1, c3⟩ := (Bool.and_eq_true _ _).mp hc
        obtain ⟨c1, c2⟩ := (Bool.and_eq_true _ _).mp c1
        have n1 := rs.imm c1
        have n2 := rs'.imm c2
        subst n1 n2
        refine ⟨p, p', xs, ys, rfl, rfl, h, h', by rw [← rs.length, ← rs'.length]; exact of_decide_eq_true c3, fun l hl => ?_⟩
        have s3 : Same H2 (upd H2 l (.lst (xs ++ ys))) := fun b o e => by rw [upd_ne (ne_of_none e hl)]; exact e
        have rr : Reps X.K H2 (ds ++ es) (xs ++ ys) [] := Reps.append (f := []) (g := []) rs rs'
        refine q _ _ [l] ((s1.trans s2).trans s3) (.lst upd_same (rr.same s3)) ⟨List.nodup_cons.mpr ⟨(fun m => by cases m), List.nodup_nil⟩, fun a m => ?_⟩
        cases List.mem_singleton.mp m
        exact (s1.trans s2).free hl
      · rw [if_neg hc] at e3; cases e3
    | _ => cases e3
  | _ => cases d2 <;> cases e3
def tyD : D → Option String
  | .int _ => some "int"
  | .bl _ => some "bool"
  | .str _ => some "str"
  | .non => some "NoneType"
  | .lst _ => some "list"
  | .dic _ => some "dict"
  | _ => none
def oIsi (T : String) (d : D) : Option D := match tyD d with
  | some t => some (.bl (t == T || (t == "bool" && T == "int")))
  | none => none
def isiOk (T : String) : Prop := ∀ (K : PySem.W.Frag) (t : String), t ∈ ["int", "bool", "str", "NoneType", "list", "dict"] → PySem.W.kitOne K (.type t) (.type T) = some (t == T || (t == "bool" && T == "int"))
theorem isi_int : isiOk "int" := by
  intro K t m
  simp only [List.mem_cons, List.not_mem_nil, or_false] at m
  rcases m with rfl | rfl | rfl | rfl | rfl | rfl <;> rfl
theorem isi_bool : isiOk "bool" := by
  intro K t m
  simp only [List.mem_cons, List.not_mem_nil, or_false] at m
  rcases m with rfl | rfl | rfl | rfl | rfl | rfl <;> rfl
theorem isi_list : isiOk "list" := by
  intro K t m
  simp only [List.mem_cons, List.not_mem_nil, or_false] at m
  rcases m with rfl | rfl | rfl | rfl | rfl | rfl <;> rfl
theorem call_isi (T : String) : CallR X (.builtin "isinstance") (fun xs H Q => ∃ x t b, xs = [x, V.ty T] ∧ TyOf X.K H x t ∧ PySem.W.kitOne X.K t (.type T) = some b ∧ Q (.bl b) H) := by
  intro pins s σ H xs us Q I r h
  obtain ⟨x, t, bb, rfl, ty, e, q⟩ := h
  obtain ⟨u, w', rfl, ru, rw'⟩ := vals2 r
  cases rw'
  exact isinst_ok I ru ty e fun tk => ⟨.bl bb, H, I.tok tk, rfl, q⟩
theorem Rep.ty {K : PySem.W.Frag} {H : Hp} {d : D} {v : V} {fp : List Addr} {t : String} (r : Rep K H d v fp) (e : tyD d = some t) : TyOf K H v (.type t) ∧ t ∈ ["int", "bool", "str", "NoneType", "list", "dict"] := by
  cases r with
  | non => cases e; exact ⟨.non, by decide⟩
  | bl b => cases e; exact ⟨.bl b, by decide⟩
  | int i => cases e; exact ⟨.int i, by decide⟩
  | str x => cases e; exact ⟨.str x, by decide⟩
  | lst h _ => cases e; exact ⟨.lst h, by decide⟩
  | dic h _ _ => cases e; exact ⟨.dK h, by decide⟩
  | tup _ _ => cases e
  | lsf _ _ => cases e
  | dit _ _ _ => cases e
  | ins _ _ _ _ => cases e
theorem fp_isi {T : String} {x : Str} {p p2 : Pos} (hT : isiOk T) (hm : X.mg "isinstance" = none) (hmT : X.mg x = none) (ha : FP X a fa) (hbT : bootBuiltins x = some (.type T) := by decide +kernel) (hg : Gl X "isinstance" := by rfl) (hgT : Gl X x := by rfl) (hn : x ≠ "__name__" := by decide) (hdb : (x == ("__debug__" : Str)) = false := by decide)
    (hs : starEach [a, .Name x p2] X.env = [(false, eval a X.env), (false, eval (.Name x p2) X.env)] := by rfl) (hpl : (backTo pos (starEach [.Name x p2] X.env)).any (·.1) = false := by rfl) : FP X (.Call (.Name "isinstance" p) [a, .Name x p2] [] pos) (e1 (oIsi T) fa) := by
  obtain ⟨ta, pa, sa⟩ := ha
  have hs2 : starEach [.Name x p2] X.env = [(false, eval (.Name x p2) X.env)] := rfl
  refine ⟨_, pe_callB (call_isi T) hg hm (show bootBuiltins "isinstance" = some (.builtin "isinstance") by decide +kernel) (pa_cons pa (pa_cons (pe_bltn (v := .ty T) hgT hmT hbT rfl hn hdb) pa_nil) (by rw [hs, hs2])) (he := by rw [hs, hs2]) (hpl := hpl), fun H0 S z held ρ σ H Q d tg ok e k => ?_⟩
  obtain ⟨d1, t1, h1, h2, rfl⟩ := e1_of e
  refine sa H0 S z held ρ σ H _ d1 t1 ok h1 fun H1 v fp s1 r1 _ => ?_
  unfold oIsi at h2
  cases ht : tyD d1 with
  | none => rw [ht] at h2; cases h2
  | some t =>
    rw [ht] at h2
    cases h2
    obtain ⟨ty, mem⟩ := r1.ty ht
    exact ⟨v, _, _, rfl, ty, hT X.K t mem, k H1 _ [] s1 (.bl _) .nil⟩
end
end L2.Ev
namespace L2.Ev
open PySem
section
variable {ρ : Rho} {fa fb fc : EF} {d d1 d2 d3 : D} {t t1 t2 t3 : Tag} {op3 : D → D → D → Option D} {tf tg : TF}
def k3 (op : D → D → D → Option D) : Option (D × Tag) → Option (D × Tag) → Option (D × Tag) → Option (D × Tag)
  | some (d1, _), some (d2, _), some (d3, _) => (op d1 d2 d3).map fun d => (d, .own)
  | _, _, _ => none
theorem s_e3 : e3 op3 fa fb fc ρ = k3 op3 (fa ρ) (fb ρ) (fc ρ) := by unfold e3 k3; cases fa ρ <;> cases fb ρ <;> cases fc ρ <;> rfl
theorem s_k3 : k3 op3 (some (d1, t1)) (some (d2, t2)) (some (d3, t3)) = (op3 d1 d2 d3).map fun d => (d, .own) := rfl
def andK (tg : TF) (ρ : Rho) : Option Bool → Option Bool
  | some true => tg ρ
  | some false => some false
  | none => none
def orK (tg : TF) (ρ : Rho) : Option Bool → Option Bool
  | some true => some true
  | some false => tg ρ
  | none => none
theorem s_tAnd : tAnd2 tf tg ρ = andK tg ρ (tf ρ) := by unfold tAnd2 andK; cases tf ρ with | none => rfl | some b => cases b <;> rfl
theorem s_tOr : tOr2 tf tg ρ = orK tg ρ (tf ρ) := by unfold tOr2 orK; cases tf ρ with | none => rfl | some b => cases b <;> rfl
theorem s_andKT : andK tg ρ (some true) = tg ρ := rfl
theorem s_andKF : andK tg ρ (some false) = some false := rfl
theorem s_orKT : orK tg ρ (some true) = some true := rfl
theorem s_orKF : orK tg ρ (some false) = tg ρ := rfl
def eAndK (fb : EF) (ρ : Rho) : Option (D × Tag) → Option (D × Tag)
  | some (.bl true, _) => fb ρ
  | some (.bl false, _) => some (.bl false, .own)
  | _ => none
theorem s_eAnd : eAnd fa fb ρ = eAndK fb ρ (fa ρ) := by
  unfold eAnd eAndK
  cases fa ρ with
  | none => rfl
  | some w => obtain ⟨d, t⟩ := w; cases d <;> first | rfl | (rename_i b; cases b <;> rfl)
theorem s_eAndT : eAndK fb ρ (some (.bl true, t)) = fb ρ := rfl
theorem s_eAndF : eAndK fb ρ (some (.bl false, t)) = some (.bl false, .own) := rfl
theorem s_oNot {b : Bool} : oNot (.bl b) = some (.bl (!b)) := rfl
theorem s_min2 {m n : Int} : oMin2 (.int m) (.int n) = some (.int (if n < m then n else m)) := rfl
theorem s_isN : oIsN d .non = some (.bl (isNon d)) := rfl
theorem s_notN : oNotN d .non = some (.bl (!isNon d)) := rfl
theorem s_tTrue : tTrue ρ = some true := rfl
end
section
variable {g : GF} {t : Tag} {f : SF}
theorem loop_nx (P : Nat → Rho → Prop) : ∀ {ds : List D} {ρ : Rho} {n : Nat}, P n ρ → (∀ j ρ d, ds[j]? = some d → P (n + j) ρ → ∃ ρ1 ρ2, g d t ρ = some ρ1 ∧ (f ρ1 = some (.nx ρ2) ∨ f ρ1 = some (.ct ρ2)) ∧ P (n + j + 1) ρ2) →
    ∃ ρ', loopF g t f ds ρ = some (.nx ρ') ∧ P (n + ds.length) ρ'
  | [], ρ, n, h, _ => ⟨ρ, rfl, h⟩
  | d :: ds, ρ, n, h, hs => by
    obtain ⟨ρ1, ρ2, h1, h2, h3⟩ := hs 0 ρ d rfl h
    obtain ⟨ρ', h4, h5⟩ := loop_nx P (ds := ds) (ρ := ρ2) (n := n + 1) h3 fun j ρ d hd hp => by
      have := hs (j + 1) ρ d hd (by rw [show n + (j + 1) = n + 1 + j by omega]; exact hp)
      rw [show n + (j + 1) + 1 = n + 1 + j + 1 by omega] at this
      exact this
    refine ⟨ρ', ?_, by rw [List.length_cons, show n + (ds.length + 1) = n + 1 + ds.length by omega]; exact h5⟩
    unfold loopF
    rw [h1]
    rcases h2 with h2 | h2 <;> (dsimp only; rw [h2]; exact h4)
theorem loop_rt (P : Nat → Rho → Prop) (R : Nat → D → Prop) : ∀ {ds : List D} {ρ : Rho} {n : Nat}, P n ρ → (∀ j ρ d, ds[j]? = some d → P (n + j) ρ → ∃ ρ1, g d t ρ = some ρ1 ∧ ((∃ ρ2, (f ρ1 = some (.nx ρ2) ∨ f ρ1 = some (.ct ρ2)) ∧ P (n + j + 1) ρ2) ∨ ∃ r, f ρ1 = some (.rt r) ∧ R (n + j) r)) →
    (∃ ρ', loopF g t f ds ρ = some (.nx ρ') ∧ P (n + ds.length) ρ') ∨ ∃ j r, loopF g t f ds ρ = some (.rt r) ∧ R (n + j) r ∧ j < ds.length
  | [], ρ, n, h, _ => .inl ⟨ρ, rfl, h⟩
  | d :: ds, ρ, n, h, hs => by
    obtain ⟨ρ1, h1, ⟨ρ2, h2, h3⟩ | ⟨r, h2, h3⟩⟩ := hs 0 ρ d rfl h
    · have e : loopF g t f (d :: ds) ρ = loopF g t f ds ρ2 := by
        rw [loopF, h1]
        rcases h2 with h2 | h2 <;> (dsimp only; rw [h2])
      rw [e]
      rcases loop_rt P R (ds := ds) (ρ := ρ2) (n := n + 1) h3 (fun j ρ d hd hp => by
        have := hs (j + 1) ρ d hd (by rw [show n + (j + 1) = n + 1 + j by omega]; exact hp)
        rw [show n + (j + 1) + 1 = n + 1 + j + 1 by omega, show n + (j + 1) = n + 1 + j by omega] at this
        exact this) with ⟨ρ', h4, h5⟩ | ⟨j, r, h4, h5, h6⟩
      · exact .inl ⟨ρ', h4, by rw [List.length_cons, show n + (ds.length + 1) = n + 1 + ds.length by omega]; exact h5⟩
      · exact .inr ⟨j + 1, r, h4, by rw [show n + (j + 1) = n + 1 + j by omega]; exact h5, by rw [List.length_cons]; omega⟩
    · refine .inr ⟨0, r, ?_, h3, by rw [List.length_cons]; omega⟩
      rw [loopF, h1]
      dsimp only
      rw [h2]
theorem for_nx {it : IF} {ds : List D} {ρ ρ' : Rho} (hi : it ρ = some (ds, t)) (h : loopF g (itag t) f ds (lockS (ownsIn (ovr t) ρ) ρ) = some (.nx ρ')) : sFor it g f ρ = some (.nx (unlockS (ownsIn (ovr t) ρ) ρ')) := by unfold sFor; rw [hi]; dsimp only; rw [h]
theorem for_rt {it : IF} {ds : List D} {ρ : Rho} {r : D} (hi : it ρ = some (ds, t)) (h : loopF g (itag t) f ds (lockS (ownsIn (ovr t) ρ) ρ) = some (.rt r)) : sFor it g f ρ = some (.rt r) := by unfold sFor; rw [hi]; dsimp only; rw [h]
theorem for_nx0 {it : IF} {ds : List D} {ρ ρ' : Rho} (hi : it ρ = some (ds, .own)) (h : loopF g (.sh []) f ds ρ = some (.nx ρ')) : sFor it g f ρ = some (.nx ρ') := for_nx hi h
theorem for_rt0 {it : IF} {ds : List D} {ρ : Rho} {r : D} (hi : it ρ = some (ds, .own)) (h : loopF g (.sh []) f ds ρ = some (.rt r)) : sFor it g f ρ = some (.rt r) := for_rt hi h
theorem ir1 {e : EF} {ρ : Rho} {n : Int} {t : Tag} (h : e ρ = some (.int n, t)) (hs : small n = true) : iR1 e ρ = some ((List.range n.toNat).map fun i : Nat => D.int (0 + (i : Int)), .own) := by unfold iR1; rw [h]; dsimp only; rw [if_pos hs]
theorem range_at {n j : Nat} {d : D} (h : ((List.range n).map fun i : Nat => D.int (0 + (i : Int)))[j]? = some d) : d = .int j ∧ j < n := by
  rw [List.getElem?_map] at h
  cases e : (List.range n)[j]? with
  | none => rw [e] at h; cases h
  | some x =>
    rw [e] at h
    obtain ⟨hl, hx⟩ := List.getElem?_eq_some_iff.mp e
    rw [List.getElem_range] at hx
    rw [List.length_range] at hl
    subst hx
    refine ⟨?_, hl⟩
    have := Option.some.inj h
    rw [← this]
    exact congrArg D.int (Int.zero_add _)
theorem iseqL {e : EF} {ρ : Rho} {ds : List D} (h : e ρ = some (.lst ds, t)) : iSeqF e ρ = some (ds, t) := by unfold iSeqF; rw [h]
theorem iseqT {e : EF} {ρ : Rho} {ds : List D} (h : e ρ = some (.tup ds, t)) : iSeqF e ρ = some (ds, t) := by unfold iSeqF; rw [h]
theorem comp_ok {js : List (Option Nat)} {it : IF} {tt : TF} {te : EF} {ρ : Rho} {ds : List D} {k : D → Option D} (hi : it ρ = some (ds, t)) (hl : ds.length < sizeLine) (h : ∀ d ∈ ds, compE g tt te (iniR js ρ) d = some (k d)) :
    eComp js it g tt te ρ = some (.lst (ds.filterMap k), .own) := by unfold eComp; rw [hi]; dsimp only; rw [if_pos hl, compF_ok h]; rfl
theorem compE_no {tt : TF} {te : EF} {ρ ρ1 : Rho} {d : D} (h1 : g d (.sh []) ρ = some ρ1) (h2 : tt ρ1 = some false) : compE g tt te ρ d = some none := by unfold compE; rw [h1]; dsimp only; rw [h2]
theorem compE_own {tt : TF} {te : EF} {ρ ρ1 : Rho} {d e : D} (h1 : g d (.sh []) ρ = some ρ1) (h2 : tt ρ1 = some true) (h3 : te ρ1 = some (e, .own)) : compE g tt te ρ d = some (some e) := by unfold compE; rw [h1]; dsimp only; rw [h2]; dsimp only; rw [h3]; rfl
theorem compE_imm {tt : TF} {te : EF} {ρ ρ1 : Rho} {d e : D} {tg : Tag} (h1 : g d (.sh []) ρ = some ρ1) (h2 : tt ρ1 = some true) (h3 : te ρ1 = some (e, tg)) (hi : imm e = true) : compE g tt te ρ d = some (some e) := by
  unfold compE; rw [h1]; dsimp only; rw [h2]; dsimp only; rw [h3]; dsimp only
  by_cases ho : isOwn tg = true
  · rw [if_pos ho]
  · rw [if_neg ho, if_pos hi]
end
def kI (p : Int × Int) : Key × D := (Sum.inl p.1, .int p.2)
def dKV (es : List (Int × Int)) : D := .dic (es.map kI)
def getI (es : List (Int × Int)) (k : Int) : Option Int := (es.find? fun p => decide (p.1 = k)).map (·.2)
def putI (es : List (Int × Int)) (k v : Int) : List (Int × Int) := if (es.any fun p => decide (p.1 = k)) = true then es.map (fun p => if p.1 = k then (p.1, v) else p) else es ++ [(k, v)]
theorem inl_iff {a k : Int} : ((Sum.inl a : Key) = Sum.inl k) ↔ a = k := ⟨fun h => Sum.inl.inj h, fun h => by rw [h]⟩
theorem valD_I (es : List (Int × Int)) (k : Int) : valD (es.map kI) (Sum.inl k : Key) = (getI es k).map D.int := by
  unfold valD getI
  induction es with
  | nil => rfl
  | cons p r ih =>
    rw [List.map_cons, List.find?_cons, List.find?_cons]
    by_cases h : p.1 = k
    · rw [decide_eq_true (show (kI p).1 = Sum.inl k from inl_iff.mpr h), decide_eq_true h]; rfl
    · rw [decide_eq_false (show ¬(kI p).1 = Sum.inl k from fun e => h (inl_iff.mp e)), decide_eq_false h]; exact ih
theorem putD_I (es : List (Int × Int)) (k v : Int) : putD (es.map kI) (Sum.inl k : Key) (.int v) = (putI es k v).map kI := by
  unfold putD putI
  have e : ((es.map kI).any fun kv => decide (kv.1 = (Sum.inl k : Key))) = es.any fun p => decide (p.1 = k) := by
    rw [List.any_map]
    congr 1
    funext p
    exact decide_eq_decide.mpr inl_iff
  rw [e]
  by_cases h : (es.any fun p => decide (p.1 = k)) = true
  · rw [if_pos h, if_pos h, List.map_map, List.map_map]
    congr 1
    funext p
    show (if (kI p).1 = Sum.inl k then ((kI p).1, D.int v) else kI p) = kI (if p.1 = k then (p.1, v) else p)
    by_cases hp : p.1 = k
    · rw [if_pos hp, if_pos (show (kI p).1 = Sum.inl k from inl_iff.mpr hp)]; rfl
    · rw [if_neg hp, if_neg (show ¬(kI p).1 = Sum.inl k from fun e => hp (inl_iff.mp e))]
  · rw [if_neg h, if_neg h, List.map_append]; rfl
theorem s_getD {es : List (Int × Int)} {k z : Int} : oGetD (dKV es) (.int k) (.int z) = some (.int ((getI es k).getD z)) := by
  show (match valD (es.map kI) (Sum.inl k : Key) with | some d => if imm d = true then some d else none | none => if imm (.int z) = true then some (.int z) else none) = _
  rw [valD_I]
  cases getI es k <;> rfl
theorem s_get {es : List (Int × Int)} {k v : Int} (h : getI es k = some v) : oGet (dKV es) (.int k) = some (.int v) := by
  show ((valD (es.map kI) (Sum.inl k : Key)).bind fun d => if imm d = true then some d else none) = _
  rw [valD_I, h]; rfl
theorem s_lenKV {es : List (Int × Int)} : oLen (dKV es) = some (.int es.length) := by unfold dKV; rw [s_lenD, List.length_map]
theorem keysI_I : ∀ es : List (Int × Int), keysI (es.map kI) = some (es.map (·.1))
  | [] => rfl
  | p :: r => by rw [List.map_cons]; show (keysI (r.map kI)).map (p.1 :: ·) = _; rw [keysI_I r]; rfl
theorem s_sortedKV {es : List (Int × Int)} (h : es.length < 64) : oSorted (dKV es) = some (.lst ((srt (es.map (·.1))).map D.int)) := by
  show (match keysI (es.map kI) with | some ns => if ns.length < 64 then some (D.lst ((srt ns).map D.int)) else none | none => none) = _
  rw [keysI_I]; dsimp only; rw [if_pos (by rw [List.length_map]; exact h)]
theorem immAll_kI : ∀ es : List (Int × Int), immAll ((es.map kI).map (·.2)) = true
  | [] => rfl
  | p :: r => by rw [List.map_cons, List.map_cons]; unfold immAll; rw [immAll_kI r]; rfl
theorem s_dictKV {es : List (Int × Int)} : oDict (dKV es) = some (dKV es) := by
  show (if immAll ((es.map kI).map (·.2)) = true then some (D.dic (es.map kI)) else none) = _
  rw [if_pos (immAll_kI es)]; rfl
theorem s_dput {i : Nat} {fk fv : EF} {ρ : Rho} {es : List (Int × Int)} {k v : Int} {t1 t2 : Tag} (h1 : fv ρ = some (.int v, t1)) (h2 : ρ[i]? = some (some (dKV es, .own))) (h3 : fk ρ = some (.int k, t2)) (hl : es.length < sizeLine) :
    sDput i fk fv ρ = some (.nx (mutS ρ i (dKV (putI es k v)))) := by
  unfold sDput
  rw [h1, h2, h3]
  unfold dKV
  dsimp only [keyD]
  rw [if_pos (by rw [immAll_kI, List.length_map, decide_eq_true hl]; rfl), putD_I]
theorem getI_put (es : List (Int × Int)) (k v j : Int) : getI (putI es k v) j = if j = k then some v else getI es j := by
  unfold putI
  by_cases h : (es.any fun p => decide (p.1 = k)) = true
  · rw [if_pos h]
    unfold getI
    induction es with
    | nil => cases h
    | cons p r ih =>
      rw [List.map_cons, List.find?_cons, List.find?_cons]
      by_cases hp : p.1 = k
      · rw [if_pos hp]
        dsimp only
        by_cases hj : j = k
        · rw [decide_eq_true (hp.trans hj.symm), if_pos hj]; rfl
        · have hne : ¬p.1 = j := fun e => hj (e.symm.trans hp)
          rw [decide_eq_false hne, if_neg hj]
          dsimp only
          by_cases hr : (r.any fun p => decide (p.1 = k)) = true
          · rw [ih hr, if_neg hj]
          · congr 1
            have : r.map (fun p => if p.1 = k then (p.1, v) else p) = r := by
              conv => rhs; rw [← List.map_id r]
              refine List.map_congr_left fun q m => ?_
              rw [if_neg fun e => hr (List.any_eq_true.mpr ⟨q, m, decide_eq_true e⟩)]; rfl
            rw [this]
      · rw [if_neg hp]
        have hr : (r.any fun p => decide (p.1 = k)) = true := by
          rw [List.any_cons, decide_eq_false hp] at h
          exact h
        by_cases hj : p.1 = j
        · rw [decide_eq_true hj, if_neg fun e => hp (hj.trans e)]
        · rw [decide_eq_false hj]; exact ih hr
  · rw [if_neg h]
    unfold getI
    rw [List.find?_append]
    by_cases hj : j = k
    · have : (es.find? fun p => decide (p.1 = j)) = none := List.find?_eq_none.mpr fun q m hq => h (List.any_eq_true.mpr ⟨q, m, by rw [← hj]; exact hq⟩)
      rw [this, if_pos hj, hj]
      simp
    · rw [if_neg hj]
      have : ([(k, v)].find? fun p => decide (p.1 = j)) = none := List.find?_eq_none.mpr fun q m hq => hj (by cases List.mem_singleton.mp m; exact (of_decide_eq_true hq).symm)
      rw [this, Option.or_none]
theorem putI_keys (es : List (Int × Int)) (k v : Int) : (putI es k v).map (·.1) = if k ∈ es.map (·.1) then es.map (·.1) else es.map (·.1) ++ [k] := by
  unfold putI
  by_cases h : (es.any fun p => decide (p.1 = k)) = true
  · have hm : k ∈ es.map (·.1) := by
      obtain ⟨p, m, hp⟩ := List.any_eq_true.mp h
      exact List.mem_map.mpr ⟨p, m, of_decide_eq_true hp⟩
    rw [if_pos h, if_pos hm, List.map_map]
    refine List.map_congr_left fun p m => ?_
    show (if p.1 = k then (p.1, v) else p).1 = p.1
    split <;> rfl
  · have hm : k ∉ es.map (·.1) := fun m => by
      obtain ⟨p, m, hp⟩ := List.mem_map.mp m
      exact h (List.any_eq_true.mpr ⟨p, m, decide_eq_true hp⟩)
    rw [if_neg h, if_neg hm, List.map_append]; rfl
theorem putI_nodup {es : List (Int × Int)} {k v : Int} (h : (es.map (·.1)).Nodup) : ((putI es k v).map (·.1)).Nodup := by
  rw [putI_keys]
  by_cases hm : k ∈ es.map (·.1)
  · rw [if_pos hm]; exact h
  · rw [if_neg hm]
    exact List.nodup_append.mpr ⟨h, List.nodup_cons.mpr ⟨(fun m => by cases m), List.nodup_nil⟩, fun a ha b hb e => hm (by cases List.mem_singleton.mp hb; exact e ▸ ha)⟩
theorem putI_len {es : List (Int × Int)} {k v : Int} : (putI es k v).length ≤ es.length + 1 := by
  have := congrArg List.length (putI_keys es k v)
  rw [List.length_map] at this
  rw [this]
  split
  · rw [List.length_map]; omega
  · rw [List.length_append, List.length_map]; exact Nat.le_refl _
theorem getI_key {es : List (Int × Int)} {k : Int} : (∃ v, getI es k = some v) ↔ k ∈ es.map (·.1) := by
  unfold getI
  constructor
  · rintro ⟨v, h⟩
    cases e : es.find? fun p => decide (p.1 = k) with
    | none => rw [e] at h; cases h
    | some p => exact List.mem_map.mpr ⟨p, List.mem_of_find?_eq_some e, of_decide_eq_true (List.find?_some e :)⟩
  · intro h
    obtain ⟨p, m, hp⟩ := List.mem_map.mp h
    cases e : es.find? fun p => decide (p.1 = k) with
    | none => exact absurd (decide_eq_true hp) (List.find?_eq_none.mp e p m)
    | some q => exact ⟨q.2, rfl⟩
def dictI (ps : List (Int × Int)) : List (Int × Int) := ps.foldl (fun m p => putI m p.1 p.2) []
theorem foldI : ∀ (ps m : List (Int × Int)), (ps.map kI).foldl (fun m p => putD m p.1 p.2) (m.map kI) = (ps.foldl (fun m p => putI m p.1 p.2) m).map kI
  | [], _ => rfl
  | p :: r, m => by rw [List.map_cons, List.foldl_cons, List.foldl_cons]; show (r.map kI).foldl _ (putD (m.map kI) (Sum.inl p.1) (.int p.2)) = _; rw [putD_I]; exact foldI r _
def dP (p : Int × Int) : D := .tup [.int p.1, .int p.2]
theorem pairsI : ∀ ps : List (Int × Int), pairsD (ps.map dP) = some (ps.map kI)
  | [] => rfl
  | p :: r => by
    rw [List.map_cons]
    show (match keyD (.int p.1), pairsD (r.map dP) with | some k, some ps => if imm (.int p.2) = true then some ((k, D.int p.2) :: ps) else none | _, _ => none) = _
    rw [pairsI r]; rfl
theorem s_dictL {ps : List (Int × Int)} : oDict (.lst (ps.map dP)) = some (dKV (dictI ps)) := by
  show (pairsD (ps.map dP)).map _ = _
  rw [pairsI]
  show some (D.dic ((ps.map kI).foldl (fun m p => putD m p.1 p.2) [])) = _
  rw [show ([] : List (Key × D)) = ([] : List (Int × Int)).map kI from rfl, foldI]; rfl
theorem s_dictT {ps : List (Int × Int)} : oDict (.tup (ps.map dP)) = some (dKV (dictI ps)) := by
  show (pairsD (ps.map dP)).map _ = _
  rw [pairsI]
  show some (D.dic ((ps.map kI).foldl (fun m p => putD m p.1 p.2) [])) = _
  rw [show ([] : List (Key × D)) = ([] : List (Int × Int)).map kI from rfl, foldI]; rfl
theorem getI_dict {ps : List (Int × Int)} (hn : (ps.map (·.1)).Nodup) (k : Int) : getI (dictI ps) k = getI ps k := by
  have go : ∀ (ps m : List (Int × Int)), (ps.map (·.1)).Nodup → getI (ps.foldl (fun m p => putI m p.1 p.2) m) k = (getI ps k).or (getI m k) := by
    intro ps
    induction ps with
    | nil => intro m _; rfl
    | cons p r ih =>
      intro m h
      rw [List.map_cons] at h
      obtain ⟨h1, h2⟩ := List.nodup_cons.mp h
      rw [List.foldl_cons, ih _ h2, getI_put]
      by_cases hk : k = p.1
      · have hr : getI r k = none := by
          cases e : getI r k with
          | none => rfl
          | some v => exact absurd (getI_key.mp ⟨v, e⟩) (hk ▸ h1)
        rw [hr, if_pos hk]
        unfold getI
        rw [List.find?_cons, decide_eq_true hk.symm]; rfl
      · rw [if_neg hk]
        have : getI (p :: r) k = getI r k := by unfold getI; rw [List.find?_cons, decide_eq_false fun e => hk e.symm]
        rw [this]
  unfold dictI
  rw [go ps [] hn]
  cases getI ps k <;> rfl
end L2.Ev
namespace L2.Ev
open PySem PySem.Spec PyProof.Rows
def eIx (fa fb : EF) : EF := fun ρ => match fa ρ, fb ρ with
  | some (.lst ds, .sh o), some (.int i, _) => (atI ds i).map fun d => (d, .sh o)
  | _, _ => none
theorem eIx_of {fa fb : EF} {ρ : Rho} {d : D} {tg : Tag} (e : eIx fa fb ρ = some (d, tg)) : ∃ ds o i t2, fa ρ = some (.lst ds, .sh o) ∧ fb ρ = some (.int i, t2) ∧ atI ds i = some d ∧ tg = .sh o := by
  unfold eIx at e
  cases h1 : fa ρ with
  | none => rw [h1] at e; cases e
  | some p =>
    obtain ⟨d1, t1⟩ := p
    cases h2 : fb ρ with
    | none => rw [h1, h2] at e; cases d1 <;> cases t1 <;> cases e
    | some p =>
      obtain ⟨d2, t2⟩ := p
      rw [h1, h2] at e
      cases d1 <;> cases t1 <;> cases d2 <;> try cases e
      rename_i ds o i
      dsimp only at e
      cases h3 : atI ds i with
      | none => rw [h3] at e; cases e
      | some d3 =>
        rw [h3] at e
        cases e
        exact ⟨ds, o, i, t2, rfl, rfl, h3, rfl⟩
theorem fp_ixP {X : Cx} {a b : Expr} {fa fb : EF} {pos : Pos} (ha : FP X a fa) (hb : FP X b fb) (hs : PlainIx b := by exact fun _ _ => rfl) : FP X (.Subscript a b pos) (eIx fa fb) := by
  obtain ⟨ta, pa, sa⟩ := ha
  obtain ⟨tb, pb, sb⟩ := hb
  refine ⟨_, pe_ix ix_seq pa pb hs, fun H0 S z held ρ σ H Q d tg ok e q => ?_⟩
  obtain ⟨ds, o, i, t2, e1, e2', e3, rfl⟩ := eIx_of e
  refine sa H0 S z held ρ σ H _ _ _ ok e1 fun H1 x f1 s1 r1 g1 => ?_
  refine sb H0 S z held ρ σ H1 _ _ t2 (ok.same s1) e2' fun H2 y f2 s2 r2 _ => ?_
  have r1 := r1.same s2
  obtain ⟨p, xs, f, rfl, hq, rs, hf⟩ := r1.lst_of
  cases r2
  unfold atI at e3
  cases h : ixN ds.length i with
  | none => rw [h] at e3; cases e3
  | some j =>
    rw [h, Option.bind_some] at e3
    obtain ⟨v, f', hv, rv, hm⟩ := rs.get e3
    refine .inl ⟨p, xs, i, v, rfl, rfl, hq, ?_, q H2 v f' (s1.trans s2) rv fun a m => g1 a ?_⟩
    · unfold atI
      rw [← rs.length, h, Option.bind_some]; exact hv
    · exact hf a (hm a m)
theorem s_eIx {fa fb : EF} {ρ : Rho} {ds : List D} {o : List Nat} {i : Int} {t2 : Tag} {d : D} (h1 : fa ρ = some (.lst ds, .sh o)) (h2 : fb ρ = some (.int i, t2)) (h : atI ds i = some d) : eIx fa fb ρ = some (d, .sh o) := by
  unfold eIx; rw [h1, h2]; dsimp only; rw [h]; rfl
end L2.Ev
namespace L2.Ev
open PySem PySem.Spec PyProof.Rows
mutual
def py : D → PyData
  | .bl b => .bool b
  | .int i => .int i
  | .str x => .str x
  | .tup ds => .tuple (pys ds)
  | .lst ds => .list (pys ds)
  | .fls ds => .list (pys ds)
  | _ => .none
def pys : List D → List PyData
  | [] => []
  | d :: ds => py d :: pys ds
end
mutual
def okPy : D → Bool
  | .non | .bl _ | .int _ | .str _ => true
  | .tup ds | .lst ds | .fls ds => okPys ds
  | _ => false
def okPys : List D → Bool
  | [] => true
  | d :: ds => okPy d && okPys ds
end
section
variable {X : Cx} {pins : List (Addr × Obj)} {σ : St} {H : Hp} {s : Shared}
mutual
theorem reads_of (I : Inv X pins σ H s) : ∀ {d : D} {v : V} {f : List Addr} {u : Value}, Rep X.K H d v f → RelV v u → okPy d = true → ∃ as, Reads s.heap u (py d) as
  | .non, _, _, _, r, q, _ => by cases r; cases q; exact ⟨_, by unfold py; exact .none⟩
  | .bl b, _, _, _, r, q, _ => by cases r; cases q; exact ⟨_, by unfold py; exact .bool b⟩
  | .int i, _, _, _, r, q, _ => by cases r; obtain ⟨t, rfl⟩ := q; exact ⟨_, by unfold py; exact .int i t⟩
  | .str x, _, _, _, r, q, _ => by cases r; obtain ⟨t, rfl⟩ := q; exact ⟨_, by unfold py; exact .str x t⟩
  | .tup ds, _, _, _, r, q, e => by
    obtain ⟨a, xs, rfl, hq, rs⟩ := r.tup_of
    cases q
    obtain ⟨us, v1, ⟨o, h1, h2, n, h3⟩, _⟩ := I.tuple hq
    obtain ⟨as, ra⟩ := readsAll_of I rs v1 (by unfold okPy at e; exact e)
    exact ⟨_, by unfold py; exact .tuple h1 h2 h3 (by simpa using ra)⟩
  | .lst ds, _, _, _, r, q, e => by
    obtain ⟨a, xs, f, rfl, hq, rs, _⟩ := r.lst_of
    cases q
    obtain ⟨us, v1, ⟨o, n, h1, h2, _, h3⟩, _⟩ := I.list hq
    obtain ⟨as, ra⟩ := readsAll_of I rs v1 (by unfold okPy at e; exact e)
    exact ⟨_, by unfold py; exact .list h1 h2 h3 (by simpa using ra)⟩
  | .fls ds, _, _, _, r, q, e => by
    obtain ⟨a, xs, rfl, hq, rs⟩ := r.fls_of
    cases q
    obtain ⟨us, v1, ⟨o, n, h1, h2, _, h3⟩, _⟩ := I.list hq
    obtain ⟨as, ra⟩ := readsAll_of I rs v1 (by unfold okPy at e; exact e)
    exact ⟨_, by unfold py; exact .list h1 h2 h3 (by simpa using ra)⟩
  | .dic _, _, _, _, _, _, e => by unfold okPy at e; cases e
  | .dit _, _, _, _, _, _, e => by unfold okPy at e; cases e
  | .ins _ _, _, _, _, _, _, e => by unfold okPy at e; cases e
theorem readsAll_of (I : Inv X pins σ H s) : ∀ {ds : List D} {xs : List V} {f : List Addr} {us : List Value}, Reps X.K H ds xs f → Vals xs us → okPys ds = true → ∃ as, ReadsAll s.heap us (pys ds) as
  | [], _, _, _, r, q, _ => by cases r; cases q; exact ⟨_, by unfold pys; exact .nil⟩
  | d :: ds, _, _, _, r, q, e => by
    cases r with
    | cons r1 r2 =>
      cases q with
      | cons q1 q2 =>
        unfold okPys at e
        obtain ⟨e1, e2⟩ := (Bool.and_eq_true _ _).mp e
        obtain ⟨as, h1⟩ := reads_of I r1 q1 e1
        obtain ⟨bs, h2⟩ := readsAll_of I r2 q2 e2
        exact ⟨_, by unfold pys; exact .cons h1 h2⟩
end
end
mutual
theorem noDict : ∀ d : D, (py d).hasDict = false
  | .non => by unfold py; simp only [PyData.hasDict]
  | .bl _ => by unfold py; simp only [PyData.hasDict]
  | .int _ => by unfold py; simp only [PyData.hasDict]
  | .str _ => by unfold py; simp only [PyData.hasDict]
  | .tup ds => by unfold py; simp only [PyData.hasDict]; exact noDicts ds
  | .lst ds => by unfold py; simp only [PyData.hasDict]; exact noDicts ds
  | .fls ds => by unfold py; simp only [PyData.hasDict]; exact noDicts ds
  | .dic _ => by unfold py; simp only [PyData.hasDict]
  | .dit _ => by unfold py; simp only [PyData.hasDict]
  | .ins _ _ => by unfold py; simp only [PyData.hasDict]
theorem noDicts : ∀ ds : List D, PyData.hasDictAll (pys ds) = false
  | [] => by unfold pys; simp only [PyData.hasDictAll]
  | d :: ds => by unfold pys; simp only [PyData.hasDictAll, noDict d, noDicts ds, Bool.or_self]
end
def shw (d : D) : Bool := okPy d && (py d).showable && decide ((py d).depth ≤ 40) && decide ((py d).shown.length ≤ sizeLine)
def oRepr (d : D) : Option D := if shw d = true then (if decide (dep d ≠ 0) = true then some (.str (py d).shown) else none) else none
def rRepr (K : PySem.W.Frag) : List V → Hp → VK → Prop := fun xs H Q => ∃ a d f, xs = [V.ref a] ∧ Rep K H d (.ref a) f ∧ shw d = true ∧ Q (.str (py d).shown) H
section
variable {X : Cx}
theorem call_repr {k : Nat} (hr : Room k X.A) : CallR X (.builtin "repr") (rRepr X.K) := by
  intro pins s σ H xs us Q I r h
  obtain ⟨a, d, f, rfl, rd, hs, q⟩ := h
  obtain ⟨u, rfl, ru⟩ := vals1 r
  unfold shw at hs
  obtain ⟨hs, h4⟩ := (Bool.and_eq_true _ _).mp hs
  obtain ⟨hs, h3⟩ := (Bool.and_eq_true _ _).mp hs
  obtain ⟨h1, h2⟩ := (Bool.and_eq_true _ _).mp hs
  obtain ⟨as, rr⟩ := reads_of I rd ru h1
  cases ru
  have hu := hr.un
  have h3 := of_decide_eq_true h3
  exact repr_of_reads' rr h2 (PyData.noDict_hsm (noDict d)) hr.gd (by omega) (fun b o e => e) (fun h' t tk hk => ⟨.str (py d).shown, H, I.kept hk, ⟨t, rfl⟩, q⟩) (of_decide_eq_true h4)
theorem does_repr {K : PySem.W.Frag} : Does1 K (rRepr K) oRepr := by
  intro H x d1 f1 d Q r e k
  unfold oRepr at e
  by_cases h1 : shw d1 = true
  · rw [if_pos h1] at e
    by_cases h2 : decide (dep d1 ≠ 0) = true
    · rw [if_pos h2] at e
      cases e
      have hr : ∃ p, x = .ref p := by
        cases r <;> first | exact ⟨_, rfl⟩ | (exact absurd rfl (of_decide_eq_true h2))
      obtain ⟨p, rfl⟩ := hr
      exact ⟨p, d1, f1, rfl, r, h1, k H _ [] (Same.refl H) (.str _) List.nodup_nil fun a m => nomatch m⟩
    · rw [if_neg h2] at e; cases e
  · rw [if_neg h1] at e; cases e
theorem fp_repr {k : Nat} {a : Expr} {fa : EF} {p pos : Pos} (hr : Room k X.A) (hm : X.mg "repr" = none) (ha : FP X a fa) (hg : Gl X "repr" := by rfl) (hs : starEach [a] X.env = [(false, eval a X.env)] := by rfl) : FP X (.Call (.Name "repr" p) [a] [] pos) (e1 oRepr fa) :=
  fp_1 does_repr ha fun ta pa => pe_callB (call_repr hr) hg hm boot_repr (pa_cons pa pa_nil hs) (he := hs) (hpl := rfl)
end
theorem s_repr {d : D} (h : shw d = true) (hd : dep d ≠ 0) : oRepr d = some (.str (py d).shown) := by unfold oRepr; rw [if_pos h, if_pos (decide_eq_true hd)]
def small12 (i : Int) : Prop := i.natAbs < 10 ^ 12
def dRow (r : List Int) : D := .tup (r.map D.int)
def dRows (rs : List (List Int)) : List D := rs.map dRow
theorem pys_ints : ∀ r : List Int, pys (r.map D.int) = r.map PyData.int
  | [] => rfl
  | i :: r => by rw [List.map_cons, List.map_cons]; unfold pys; rw [pys_ints r]; unfold py; rfl
theorem okPys_ints : ∀ r : List Int, okPys (r.map D.int) = true
  | [] => rfl
  | i :: r => by rw [List.map_cons]; unfold okPys; rw [okPys_ints r]; rfl
theorem log2_small {n : Nat} (h : n < 10 ^ 12) : n.log2 < 1920 := by
  by_cases hz : n = 0
  · subst hz; decide
  · rw [Nat.log2_lt hz]
    exact Nat.lt_of_lt_of_le h (Nat.le_trans (show 10 ^ 12 ≤ 2 ^ 40 by decide) (Nat.pow_le_pow_right (by decide) (by decide)))
theorem showAll_ints : ∀ r : List Int, (∀ i ∈ r, small12 i) → PyData.showableAll (r.map PyData.int) = true
  | [], _ => rfl
  | i :: r, h => by
    rw [List.map_cons]
    simp only [PyData.showableAll, PyData.showable, Bool.and_eq_true, decide_eq_true_eq]
    exact ⟨log2_small (h i List.mem_cons_self), showAll_ints r fun j m => h j (List.mem_cons_of_mem _ m)⟩
theorem weightAll_ints : ∀ r : List Int, (∀ i ∈ r, small12 i) → PyData.weightAll (r.map PyData.int) ≤ 50 * r.length
  | [], _ => by simp [PyData.weightAll]
  | i :: r, h => by
    rw [List.map_cons, List.length_cons]
    have h1 : i.natAbs < 10 ^ 12 := h i List.mem_cons_self
    have h2 := weightAll_ints r fun j m => h j (List.mem_cons_of_mem _ m)
    have h3 : (PyData.int i).weight ≤ 41 := by
      simp only [PyData.weight]
      split
      · omega
      · rename_i hz
        have hz' : i.natAbs ≠ 0 := by
          intro q
          apply hz
          rw [Int.natAbs_eq_zero.mp q]; rfl
        have : i.natAbs.log2 < 40 := by
          rw [Nat.log2_lt hz']
          exact Nat.lt_of_lt_of_le h1 (by decide)
        omega
    simp only [PyData.weightAll]
    omega
theorem leavesAll_ints : ∀ r : List Int, (∀ i ∈ r, small12 i) → PyData.leavesShortAll 13 (r.map PyData.int) = true
  | [], _ => rfl
  | i :: r, h => by
    rw [List.map_cons]
    simp only [PyData.leavesShortAll, PyData.leavesShort, Bool.and_eq_true, decide_eq_true_eq]
    exact ⟨PyData.shown_int_le (h i List.mem_cons_self), leavesAll_ints r fun j m => h j (List.mem_cons_of_mem _ m)⟩
theorem depthAll_ints : ∀ r : List Int, PyData.depthAll (r.map PyData.int) = 0
  | [] => rfl
  | i :: r => by rw [List.map_cons]; simp only [PyData.depthAll, PyData.depth, depthAll_ints r]; rfl
def pRow (r : List Int) : PyData := .tuple (r.map PyData.int)
theorem py_row (r : List Int) : py (dRow r) = pRow r := by unfold dRow pRow; unfold py; rw [pys_ints]
theorem pys_rows : ∀ rs : List (List Int), pys (dRows rs) = rs.map pRow
  | [] => rfl
  | r :: rs => by
    show pys (dRow r :: dRows rs) = pRow r :: rs.map pRow
    unfold pys
    rw [py_row, pys_rows rs]
theorem okPys_rows : ∀ rs : List (List Int), okPys (dRows rs) = true
  | [] => rfl
  | r :: rs => by
    show okPys (dRow r :: dRows rs) = true
    unfold okPys
    rw [okPys_rows rs, Bool.and_true]
    unfold dRow okPy
    exact okPys_ints r
theorem rows_facts : ∀ rs : List (List Int), (∀ r ∈ rs, r.length ≤ 3 ∧ ∀ i ∈ r, small12 i) → PyData.showableAll (rs.map pRow) = true ∧ PyData.depthAll (rs.map pRow) ≤ 1 ∧ PyData.leavesShortAll 13 (rs.map pRow) = true ∧ PyData.weightAll (rs.map pRow) ≤ 151 * rs.length
  | [], _ => ⟨rfl, by simp [PyData.depthAll], rfl, by simp [PyData.weightAll]⟩
  | r :: rs, h => by
    obtain ⟨h1, h2⟩ := h r List.mem_cons_self
    obtain ⟨i1, i2, i3, i4⟩ := rows_facts rs fun q m => h q (List.mem_cons_of_mem _ m)
    have w := weightAll_ints r h2
    rw [List.map_cons, List.length_cons]
    refine ⟨?_, ?_, ?_, ?_⟩
    · simp only [PyData.showableAll, i1, Bool.and_true, pRow, PyData.showable]; exact showAll_ints r h2
    · simp only [PyData.depthAll, pRow, PyData.depth, depthAll_ints r]; omega
    · simp only [PyData.leavesShortAll, i3, Bool.and_true, pRow, PyData.leavesShort]; exact leavesAll_ints r h2
    · simp only [PyData.weightAll, pRow, PyData.weight]; omega
theorem shw_rows {rs : List (List Int)} (h : ∀ r ∈ rs, r.length ≤ 3 ∧ ∀ i ∈ r, small12 i) (hl : rs.length ≤ 6000) : shw (.lst (dRows rs)) = true := by
  obtain ⟨h1, h2, h3, h4⟩ := rows_facts rs h
  have e : py (.lst (dRows rs)) = .list (rs.map pRow) := by unfold py; rw [pys_rows]
  unfold shw
  rw [e]
  have a1 : okPy (.lst (dRows rs)) = true := by unfold okPy; exact okPys_rows rs
  have a2 : (PyData.list (rs.map pRow)).showable = true := by simp only [PyData.showable]; exact h1
  have a3 : (PyData.list (rs.map pRow)).depth ≤ 40 := by simp only [PyData.depth]; omega
  have a4 : (PyData.list (rs.map pRow)).shown.length ≤ sizeLine := by
    refine PyData.shown_fits (B := 13) (by decide) (by decide) ?_ ?_
    · simp only [PyData.leavesShort]; exact h3
    · simp only [PyData.weight]
      have : 151 * rs.length ≤ 151 * 6000 := Nat.mul_le_mul_left _ hl
      have e : (2 : Nat) ^ 20 = 1048576 := by decide
      omega
  rw [a1, a2, decide_eq_true a3, decide_eq_true a4]
  rfl
theorem dep_lst (ds : List D) : dep (.lst ds) ≠ 0 := by unfold dep; omega
def layOk (d : D) : Bool := okPy d && (py d).canLay0 && decide ((py d).depth ≤ 40)
def oEqP (d1 d2 : D) : Option D := if (layOk d1 && layOk d2) = true then some (.bl (PyData.eqv (py d1) (py d2))) else none
def oNeP (d1 d2 : D) : Option D := if (layOk d1 && layOk d2) = true then some (.bl (!PyData.eqv (py d1) (py d2))) else none
def rEqP (K : PySem.W.Frag) (neg : Bool) : R2 := fun x y H Q => ∃ d1 d2 f1 f2, Rep K H d1 x f1 ∧ Rep K H d2 y f2 ∧ layOk d1 = true ∧ layOk d2 = true ∧ Q (.bl (if neg = true then !PyData.eqv (py d1) (py d2) else PyData.eqv (py d1) (py d2))) H
section
variable {X : Cx} {a b : Expr} {fa fb : EF} {pos : Pos}
theorem lay_of {d : D} (h : layOk d = true) : okPy d = true ∧ (py d).canLay0 = true ∧ (py d).depth ≤ 40 := by
  unfold layOk at h
  obtain ⟨h, h3⟩ := (Bool.and_eq_true _ _).mp h
  obtain ⟨h1, h2⟩ := (Bool.and_eq_true _ _).mp h
  exact ⟨h1, h2, of_decide_eq_true h3⟩
theorem op_neP (hu : X.A.units + 64 < cLine) : OpR X (compareOp .NotEq) (rEqP X.K true) := by
  intro pins s σ H x y v u Q I rx ry h
  obtain ⟨d1, d2, f1, f2, r1, r2, l1, l2, q⟩ := h
  obtain ⟨a1, a2, a3⟩ := lay_of l1
  obtain ⟨b1, b2, b3⟩ := lay_of l2
  obtain ⟨as, ra⟩ := reads_of I r1 rx a1
  obtain ⟨bs, rb⟩ := reads_of I r2 ry b1
  exact SeqAt.compareNe_reads ra rb a2 b2 (by omega) ⟨.bl _, H, I, rfl, q⟩
theorem op_eqP (hu : X.A.units + 64 < cLine) : OpR X (compareOp .Eq) (rEqP X.K false) := by
  intro pins s σ H x y v u Q I rx ry h
  obtain ⟨d1, d2, f1, f2, r1, r2, l1, l2, q⟩ := h
  obtain ⟨a1, a2, a3⟩ := lay_of l1
  obtain ⟨b1, b2, b3⟩ := lay_of l2
  obtain ⟨as, ra⟩ := reads_of I r1 rx a1
  obtain ⟨bs, rb⟩ := reads_of I r2 ry b1
  exact SeqAt.compareEq_reads ra rb a2 b2 (by omega) ⟨.bl _, H, I, rfl, q⟩
theorem does_neP {K : PySem.W.Frag} : Does2 K (rEqP K true) oNeP := by
  intro H x y d1 d2 f1 f2 d Q r1 r2 e k
  unfold oNeP at e
  by_cases hc : (layOk d1 && layOk d2) = true
  · rw [if_pos hc] at e
    cases e
    obtain ⟨c1, c2⟩ := (Bool.and_eq_true _ _).mp hc
    exact ⟨d1, d2, f1, f2, r1, r2, c1, c2, k H _ (Same.refl H) (.bl _)⟩
  · rw [if_neg hc] at e; cases e
theorem does_eqP {K : PySem.W.Frag} : Does2 K (rEqP K false) oEqP := by
  intro H x y d1 d2 f1 f2 d Q r1 r2 e k
  unfold oEqP at e
  by_cases hc : (layOk d1 && layOk d2) = true
  · rw [if_pos hc] at e
    cases e
    obtain ⟨c1, c2⟩ := (Bool.and_eq_true _ _).mp hc
    exact ⟨d1, d2, f1, f2, r1, r2, c1, c2, k H _ (Same.refl H) (.bl _)⟩
  · rw [if_neg hc] at e; cases e
theorem ft_neP (hu : X.A.units + 64 < cLine) (ha : FP X a fa) (hb : FP X b fb) : FT X (.Compare a [.NotEq] [b] pos) (tV (e2 oNeP fa fb)) := ft_cmp (op_neP hu) does_neP ha hb (nomark _)
theorem ft_eqP (hu : X.A.units + 64 < cLine) (ha : FP X a fa) (hb : FP X b fb) : FT X (.Compare a [.Eq] [b] pos) (tV (e2 oEqP fa fb)) := ft_cmp (op_eqP hu) does_eqP ha hb (nomark _)
theorem fp_neP (hu : X.A.units + 64 < cLine) (ha : FP X a fa) (hb : FP X b fb) : FP X (.Compare a [.NotEq] [b] pos) (e2 oNeP fa fb) := fp_cmp (op_neP hu) does_neP ha hb (nomark _)
theorem fp_eqP (hu : X.A.units + 64 < cLine) (ha : FP X a fa) (hb : FP X b fb) : FP X (.Compare a [.Eq] [b] pos) (e2 oEqP fa fb) := fp_cmp (op_eqP hu) does_eqP ha hb (nomark _)
end
theorem s_eqPR {d : D} (h : layOk d = true) : oEqP d d = some (.bl true) := by unfold oEqP; rw [h, Bool.and_self, if_pos rfl, SeqAt.eqv_refl _ (lay_of h).2.1]
theorem s_nePR {d : D} (h : layOk d = true) : oNeP d d = some (.bl false) := by unfold oNeP; rw [h, Bool.and_self, if_pos rfl, SeqAt.eqv_refl _ (lay_of h).2.1]; rfl
theorem canAll_ints : ∀ r : List Int, PyData.canLayAll0 (r.map PyData.int) = true
  | [] => rfl
  | i :: r => by rw [List.map_cons]; simp only [PyData.canLayAll0, PyData.canLay0, canAll_ints r, Bool.and_self]
theorem canAll_rows : ∀ rs : List (List Int), PyData.canLayAll0 (rs.map pRow) = true ∧ PyData.depthAll (rs.map pRow) ≤ 1
  | [] => ⟨rfl, by simp [PyData.depthAll]⟩
  | r :: rs => by
    obtain ⟨h1, h2⟩ := canAll_rows rs
    rw [List.map_cons]
    refine ⟨by simp only [PyData.canLayAll0, pRow, PyData.canLay0, h1, Bool.and_true]; exact canAll_ints r, ?_⟩
    simp only [PyData.depthAll, pRow, PyData.depth, depthAll_ints r]; omega
theorem lay_rows (rs : List (List Int)) : layOk (.lst (dRows rs)) = true := by
  obtain ⟨h1, h2⟩ := canAll_rows rs
  have e : py (.lst (dRows rs)) = .list (rs.map pRow) := by unfold py; rw [pys_rows]
  unfold layOk
  rw [e]
  have a1 : okPy (.lst (dRows rs)) = true := by unfold okPy; exact okPys_rows rs
  have a2 : (PyData.list (rs.map pRow)).canLay0 = true := by simp only [PyData.canLay0]; exact h1
  have a3 : (PyData.list (rs.map pRow)).depth ≤ 40 := by simp only [PyData.depth]; omega
  rw [a1, a2, decide_eq_true a3]
  rfl
theorem lay_pair {d e : D} (h1 : layOk d = true) (h2 : layOk e = true) (z1 : (py d).depth ≤ 30) (z2 : (py e).depth ≤ 30) : layOk (.lst [d, e]) = true := by
  obtain ⟨a1, a2, a3⟩ := lay_of h1
  obtain ⟨b1, b2, b3⟩ := lay_of h2
  unfold layOk
  have c1 : okPy (.lst [d, e]) = true := by rw [okPy, okPys, okPys, okPys, a1, b1]; rfl
  have ep : py (.lst [d, e]) = .list [py d, py e] := by rw [py, pys, pys, pys]
  rw [c1, ep]
  have c2 : (PyData.list [py d, py e]).canLay0 = true := by simp only [PyData.canLay0, PyData.canLayAll0, a2, b2, Bool.and_self]
  have c3 : (PyData.list [py d, py e]).depth ≤ 40 := by simp only [PyData.depth, PyData.depthAll]; omega
  rw [c2, decide_eq_true c3]; rfl
end L2.Ev
namespace L2.Ev
open PySem PySem.Spec PyProof.Rows
theorem isi_tuple : isiOk "tuple" := by
  intro K t m
  simp only [List.mem_cons, List.not_mem_nil, or_false] at m
  rcases m with rfl | rfl | rfl | rfl | rfl | rfl <;> rfl
theorem isi_str : isiOk "str" := by
  intro K t m
  simp only [List.mem_cons, List.not_mem_nil, or_false] at m
  rcases m with rfl | rfl | rfl | rfl | rfl | rfl <;> rfl
section
variable {X : Cx} {a b c : Expr} {fa fb : EF} {tc : TF} {pos : Pos}
def eIf (t : TF) (fa fb : EF) : EF := fun ρ => match t ρ with
  | some true => fa ρ
  | some false => fb ρ
  | none => none
theorem fp_ifExp (hc : FT X c tc) (ha : FP X a fa) (hb : FP X b fb) : FP X (.IfExp c a b pos) (eIf tc fa fb) := by
  obtain ⟨t, p, q⟩ := hc
  obtain ⟨t1, p1, q1⟩ := ha
  obtain ⟨t2, p2, q2⟩ := hb
  refine ⟨_, pe_ifExp p p1 p2, fun H0 S z held ρ σ H Q d tg ok e k => ?_⟩
  unfold eIf at e
  cases h : tc ρ with
  | none => rw [h] at e; cases e
  | some y =>
    rw [h] at e
    refine q H0 S z held ρ σ H _ y ok h fun H1 s1 => ?_
    cases y with
    | true => rw [if_pos rfl]; exact q1 H0 S z held ρ σ H1 Q d tg (ok.same s1) e fun H2 v fp s2 r2 g2 => k H2 v fp (s1.trans s2) r2 (g2.back s1)
    | false => rw [if_neg Bool.false_ne_true]; exact q2 H0 S z held ρ σ H1 Q d tg (ok.same s1) e fun H2 v fp s2 r2 g2 => k H2 v fp (s1.trans s2) r2 (g2.back s1)
theorem s_eIfT {ρ : Rho} (h : tc ρ = some true) : eIf tc fa fb ρ = fa ρ := by unfold eIf; rw [h]
theorem s_eIfF {ρ : Rho} (h : tc ρ = some false) : eIf tc fa fb ρ = fb ρ := by unfold eIf; rw [h]
def cDiv (_ j : Int) : Bool := decide (0 < j) && decide (j < 1073741824)
def cPw (i j : Int) : Bool := decide (0 ≤ j) && decide (j ≤ 1000000) && decide (i.natAbs < 2 ^ 64)
def oDiv := iopC cDiv fun i j => i / j
def oPow := iopC cPw fun i j => i ^ j.toNat
theorem fp_div (ha : FP X a fa) (hb : FP X b fb) : FP X (.BinOp a .FloorDiv b pos) (e2 oDiv fa fb) := fp_bin op_fdiv (does_iC fun i j h => by
  obtain ⟨h1, h2⟩ := (Bool.and_eq_true _ _).mp h
  exact ⟨of_decide_eq_true h1, of_decide_eq_true h2⟩) ha hb
theorem fp_pow (ha : FP X a fa) (hb : FP X b fb) : FP X (.BinOp a .Pow b pos) (e2 oPow fa fb) := fp_bin op_pow (does_iC fun i j h => by
  obtain ⟨h, h3⟩ := (Bool.and_eq_true _ _).mp h
  obtain ⟨h1, h2⟩ := (Bool.and_eq_true _ _).mp h
  exact ⟨of_decide_eq_true h1, of_decide_eq_true h2, of_decide_eq_true h3⟩) ha hb
theorem s_oDiv {m n : Int} (h : 0 < n) (h2 : n < 1073741824) : oDiv (.int m) (.int n) = some (.int (m / n)) := by
  show (if cDiv m n = true then some (D.int (m / n)) else none) = _
  rw [if_pos (by unfold cDiv; rw [decide_eq_true h, decide_eq_true h2]; rfl)]
def oIn (neg : Bool) : D → D → Option D
  | .int i, .lst ds => (intsD ds).map fun ns => .bl (if neg = true then !(ns.any (· == i)) else ns.any (· == i))
  | _, _ => none
theorem inV_ints (i : Int) (ns : List Int) : inV (.int i) (ns.map V.int) = ns.any (· == i) := by
  unfold inV
  rw [List.any_map]
  rfl
theorem flat_ints (ns : List Int) : (ns.map V.int).all flatV = true := by
  rw [List.all_map]
  exact List.all_eq_true.mpr fun _ _ => rfl
theorem does_in {K : PySem.W.Frag} {neg : Bool} : Does2 K (rIn K neg) (oIn neg) := by
  intro H x y d1 d2 f1 f2 d Q r1 r2 e k
  cases d1 with
  | int i =>
    cases d2 with
    | lst ds =>
      have e : ((intsD ds).map fun ns => D.bl (if neg = true then !(ns.any (· == i)) else ns.any (· == i))) = some d := e
      cases h : intsD ds with
      | none => rw [h] at e; cases e
      | some ns =>
        rw [h] at e
        cases e
        obtain ⟨p, xs, f, rfl, hq, rs, _⟩ := r2.lst_of
        cases r1
        have ex := intsD_of rs h
        subst ex
        refine ⟨p, _, rfl, .inl hq, rfl, flat_ints ns, ?_⟩
        rw [inV_ints]
        exact k H _ (Same.refl H) (.bl _)
    | _ => cases e
  | _ => cases e
theorem ft_in (ha : FP X a fa) (hb : FP X b fb) (hm : behindInMarks .In b = false := by rfl) : FT X (.Compare a [.In] [b] pos) (tV (e2 (oIn false) fa fb)) := ft_cmp op_in_seq does_in ha hb hm
theorem ft_notIn (ha : FP X a fa) (hb : FP X b fb) (hm : behindInMarks .NotIn b = false := by rfl) : FT X (.Compare a [.NotIn] [b] pos) (tV (e2 (oIn true) fa fb)) := ft_cmp op_notIn_seq does_in ha hb hm
theorem fp_in (ha : FP X a fa) (hb : FP X b fb) (hm : behindInMarks .In b = false := by rfl) : FP X (.Compare a [.In] [b] pos) (e2 (oIn false) fa fb) := fp_cmp op_in_seq does_in ha hb hm
theorem fp_notIn (ha : FP X a fa) (hb : FP X b fb) (hm : behindInMarks .NotIn b = false := by rfl) : FP X (.Compare a [.NotIn] [b] pos) (e2 (oIn true) fa fb) := fp_cmp op_notIn_seq does_in ha hb hm
theorem s_oIn {neg : Bool} {i : Int} {ns : List Int} : oIn neg (.int i) (.lst (ns.map D.int)) = some (.bl (if neg = true then !(ns.any (· == i)) else ns.any (· == i))) := by
  show ((intsD (ns.map D.int)).map _) = _
  rw [intsD_map]; rfl
def sApp (i : Nat) (fv : EF) : SF := fun ρ => match fv ρ, ρ[i]? with
  | some (d, _), some (some (.lst ds, .own)) => if (imm d && immAll ds && decide (ds.length < sizeLine)) = true then some (.nx (mutS ρ i (.lst (ds ++ [d])))) else none
  | _, _ => none
theorem fs_app (i : Nat) {x : Str} {fv : EF} {p1 p2 p3 : Pos} (hv : FP X a fv) (hN : X.N[i]? = some x := by rfl) (hvis : Vis X.env.scope x := by first | exact Or.inl rfl | exact Or.inr (Or.inl rfl) | exact Or.inr (Or.inr rfl))
    (hd : (x == ("__debug__" : Str)) = false := by decide) (hcd : (x == ("__classdict__" : Str)) = false := by decide) (hs : starEach [a] X.env = [(false, eval a X.env)] := by rfl)
    (hbase : attributeBase (.Name x p1) "append" X.env (eval (.Name x p1) X.env) = eval (.Name x p1) X.env := by rfl)
    (hfew : ((backTo p3 (starEach [a] X.env)).all (fun x => !x.1) && (backToKw p3 (keywordEach [] X.env)).all (fun x => x.1.isSome) && decide ([a].length + ([] : List Keyword).length + (if ([] : List Keyword).isEmpty then 0 else 1) < 30)) = true := by rfl)
    (hline : (p2.endLine == p3.line) = true := by rfl) (hsw : swapsWith (.Call (.Attribute (.Name x p1) "append" p2) [a] [] p3) none pos.line X.env = pure false := by rfl) :
    FS1 X (.Expr (.Call (.Attribute (.Name x p1) "append" p2) [a] [] p3) pos) (sApp i fv) := by
  obtain ⟨tv, pv', sv⟩ := hv
  refine ⟨_, ps_expr (pe_bm PySem.F.plainAttrs_list PySem.F.slot_list_append PySem.F.type_list_append mt_append (pe_var (i := i) hN hvis hd hcd) (pa_cons pv' pa_nil hs) hbase hfew hline hs rfl) hsw, fun H0 S z held ρ σ H E o ok e q => ?_⟩
  unfold sApp at e
  split at e
  · rename_i d td ds g1 g2
    by_cases hc : (imm d && immAll ds && decide (ds.length < sizeLine)) = true
    · rw [if_pos hc] at e
      cases e
      obtain ⟨c1, c3⟩ := (Bool.and_eq_true _ _).mp hc
      obtain ⟨c1, c2⟩ := (Bool.and_eq_true _ _).mp c1
      obtain ⟨xv, fp, hs', r, zz⟩ := ok.sl i _ _ g2
      refine ⟨xv, hs', ?_⟩
      obtain ⟨l, xs, f, rfl, hq, _, _⟩ := r.lst_of
      refine ⟨.inl ⟨rfl, _, hq⟩, ?_⟩
      refine sv H0 S z held ρ σ H _ d td ok g1 fun H1 v fv' s1 rv _ => ?_
      have r' := r.same s1
      have ok1 := ok.same s1
      generalize hw : (V.ref l) = w at r' hs'
      cases r' with
      | @lst a' ys _ f' h rs =>
        cases hw
        have hn := rs.imm c2
        subst hn
        have hnv := rv.imm c1
        subst hnv
        refine ⟨_, ys, v, rfl, rfl, h, by rw [← rs.length]; exact of_decide_eq_true c3, ?_⟩
        have im : Imm H1 (upd H1 l (.lst (ys ++ [v]))) := Imm.upd h rfl
        refine q z σ _ (Ok.mutate ok1 g2 hs' zz List.mem_cons_self h rfl (.lst upd_same ?_))
        exact Reps.append (f := []) (g := []) (rs.frame (fun a m => nomatch m) im) (Reps.cons (f1 := []) (f2 := []) (rv.frame (fun a m => nomatch m) im) .nil)
    · rw [if_neg hc] at e; cases e
  · cases e
theorem s_app {i : Nat} {fv : EF} {ρ : Rho} {ns : List Int} {n : Int} {t1 : Tag} (h1 : fv ρ = some (.int n, t1)) (h2 : ρ[i]? = some (some (.lst (ns.map D.int), .own))) (hl : ns.length < sizeLine) :
    sApp i fv ρ = some (.nx (mutS ρ i (.lst ((ns ++ [n]).map D.int)))) := by
  unfold sApp
  rw [h1, h2]
  dsimp only
  have him : ∀ ns : List Int, immAll (ns.map D.int) = true := fun ns => by
    induction ns with
    | nil => rfl
    | cons n r ih => rw [List.map_cons]; unfold immAll; rw [ih]; rfl
  rw [if_pos (by rw [him, List.length_map, decide_eq_true hl]; rfl), List.map_append]; rfl
def sClr (i : Nat) : SF := fun ρ => match ρ[i]? with
  | some (some (.lst ds, .own)) => if immAll ds = true then some (.nx (mutS ρ i (.lst []))) else none
  | _ => none
theorem fs_clr (i : Nat) {x : Str} {p1 p2 p3 : Pos} (hN : X.N[i]? = some x := by rfl) (hvis : Vis X.env.scope x := by first | exact Or.inl rfl | exact Or.inr (Or.inl rfl) | exact Or.inr (Or.inr rfl))
    (hd : (x == ("__debug__" : Str)) = false := by decide) (hcd : (x == ("__classdict__" : Str)) = false := by decide)
    (hbase : attributeBase (.Name x p1) "clear" X.env (eval (.Name x p1) X.env) = eval (.Name x p1) X.env := by rfl)
    (hline : (p2.endLine == p3.line) = true := by rfl) (hsw : swapsWith (.Call (.Attribute (.Name x p1) "clear" p2) [] [] p3) none pos.line X.env = pure false := by rfl) :
    FS1 X (.Expr (.Call (.Attribute (.Name x p1) "clear" p2) [] [] p3) pos) (sClr i) := by
  refine ⟨_, ps_expr (pe_bm0 PySem.F.plainAttrs_list PySem.F.slot_list_clear PySem.F.type_list_clear mt_clear (pe_var (i := i) hN hvis hd hcd) hbase hline) hsw, fun H0 S z held ρ σ H E o ok e q => ?_⟩
  unfold sClr at e
  split at e
  · rename_i ds g2
    by_cases hc : immAll ds = true
    · rw [if_pos hc] at e
      cases e
      obtain ⟨xv, fp, hs', r, zz⟩ := ok.sl i _ _ g2
      refine ⟨xv, hs', ?_⟩
      cases r with
      | @lst l ys _ f' h rs =>
        have hn := rs.imm hc
        subst hn
        refine ⟨.inl ⟨rfl, _, SqL.of h⟩, l, ys, rfl, rfl, h, ?_⟩
        exact q z σ _ (Ok.mutate ok g2 hs' zz List.mem_cons_self h rfl (.lst upd_same .nil))
    · rw [if_neg hc] at e; cases e
  · cases e
def cutD (ds : List D) (lo hi : Option Int) : List D := (ds.drop (HT.sIx ds.length 0 lo)).take (HT.sIx ds.length ds.length hi - HT.sIx ds.length 0 lo)
def oCut (lo hi : Option Int) : D → Option D
  | .lst ds => if immAll ds = true then some (.lst (cutD ds lo hi)) else none
  | .fls ds => if immAll ds = true then some (.lst (cutD ds lo hi)) else none
  | _ => none
theorem Reps.drop0 {K : PySem.W.Frag} {H : Hp} : ∀ {ds : List D} {xs : List V} (n : Nat), Reps K H ds xs [] → Reps K H (ds.drop n) (xs.drop n) []
  | ds, xs, 0, r => r
  | [], _, n + 1, r => by cases r; exact .nil
  | d :: ds, xs, n + 1, r => by
    generalize hf : ([] : List Addr) = fp at r
    cases r with
    | @cons _ _ _ _ f1 f2 r1 r2 =>
      obtain ⟨z1, z2⟩ := List.append_eq_nil_iff.mp hf.symm
      subst z1 z2
      exact Reps.drop0 n r2
theorem Reps.take0 {K : PySem.W.Frag} {H : Hp} : ∀ {ds : List D} {xs : List V} (n : Nat), Reps K H ds xs [] → Reps K H (ds.take n) (xs.take n) []
  | ds, xs, 0, r => .nil
  | [], _, n + 1, r => by cases r; exact .nil
  | d :: ds, xs, n + 1, r => by
    generalize hf : ([] : List Addr) = fp at r
    cases r with
    | @cons _ _ _ _ f1 f2 r1 r2 =>
      obtain ⟨z1, z2⟩ := List.append_eq_nil_iff.mp hf.symm
      subst z1 z2
      exact Reps.cons (f1 := []) (f2 := []) r1 (Reps.take0 n r2)
def PCut (X : Cx) (e : Option Expr) (v : Option Int) : Prop := ∃ t, PO X e t ∧ ∀ σ H Q, Q v H → t σ H Q
theorem pc_none : PCut X none none := ⟨_, po_none, fun _ _ _ q => q⟩
theorem pc_int {i : Int} {j p} : PCut X (some (.Constant (.int i) j p)) (some i) := ⟨_, po_some pe_int, fun _ _ _ q => ⟨i, rfl, q⟩⟩
theorem fp_cut {lo hi : Option Expr} {l h : Option Int} {p2 : Pos} (hl : PCut X lo l) (hh : PCut X hi h) (ha : FP X a fa) : FP X (.Subscript a (.Slice lo hi none p2) pos) (e1 (oCut l h) fa) := by
  obtain ⟨t, p, q⟩ := ha
  obtain ⟨tl, pl, ql⟩ := hl
  obtain ⟨th, ph, qh⟩ := hh
  refine ⟨_, pe_slice sl_list p pl ph, fun H0 S z held ρ σ H Q d tg ok e k => ?_⟩
  obtain ⟨d1, t1, g1, g2, rfl⟩ := e1_of e
  refine q H0 S z held ρ σ H _ d1 t1 ok g1 fun H1 x f1 s1 r1 _ => ?_
  refine ql σ H1 _ (qh σ H1 _ ?_)
  have fin : ∀ {ds : List D} {xs : List V} {f : List Addr} {w : Addr}, Reps X.K H1 ds xs f → SqL X.K H1 w xs → (if immAll ds = true then some (D.lst (cutD ds l h)) else none) = some d → rSlL X.K (.ref w) l h H1 Q := fun {ds xs f w} rs hq e => by
    by_cases hi : immAll ds = true
    · rw [if_pos hi] at e
      cases e
      have hn := rs.imm hi
      subst hn
      refine ⟨w, xs, rfl, hq, fun p hp => ?_⟩
      have s2 : Same H1 (upd H1 p (.lst (cutV xs l h))) := fun b o e => by rw [upd_ne (ne_of_none e hp)]; exact e
      have rr : Reps X.K H1 (cutD ds l h) (cutV xs l h) [] := by
        unfold cutD cutV
        rw [rs.length]
        exact Reps.take0 _ (Reps.drop0 _ rs)
      refine k _ _ [p] (s1.trans s2) (.lst upd_same (rr.same s2)) ⟨List.nodup_cons.mpr ⟨(fun m => by cases m), List.nodup_nil⟩, fun a m => ?_⟩
      cases List.mem_singleton.mp m
      exact s1.free hp
    · rw [if_neg hi] at e; cases e
  cases d1 with
  | lst ds =>
    obtain ⟨w, xs, f, rfl, hq, rs, _⟩ := r1.lst_of
    exact fin rs hq g2
  | fls ds =>
    obtain ⟨w, xs, rfl, hq, rs⟩ := r1.fls_of
    exact fin rs hq g2
  | _ => cases g2
end
end L2.Ev
namespace L2
open PySem PySem.Spec PyProof.Rows
namespace Rv
theorem slot_next : Slot "list_reverseiterator" "__next__" "list_reverseiterator.__next__" := .of (owner := "list_reverseiterator") (n := "__next__") (by rw [typeLookup_type, builtinLookup_eq_fast]; kernel_rfl) (by decide +kernel) (by decide +kernel) (by decide +kernel) (by first | exact .inl (by decide +kernel) | exact .inr (by decide +kernel)) (by rw [isSubtype_type]; kernel_rfl)
theorem slot_iter : Slot "list_reverseiterator" "__iter__" "list_reverseiterator.__iter__" := .of (owner := "list_reverseiterator") (n := "__iter__") (by rw [typeLookup_type, builtinLookup_eq_fast]; kernel_rfl) (by decide +kernel) (by decide +kernel) (by decide +kernel) (by first | exact .inl (by decide +kernel) | exact .inr (by decide +kernel)) (by rw [isSubtype_type]; kernel_rfl)
theorem entry_next : entryFor table "list_reverseiterator.__next__" = some Builtin.«list_reverseiterator.__next__» := entryFor_of_tree (by kernel_rfl)
theorem entry_iter : entryFor table "list_reverseiterator.__iter__" = some Builtin.«dict_keyiterator.__iter__» := entryFor_alias (id' := "dict_keyiterator.__iter__") (by kernel_rfl) rfl (by decide +kernel) (by kernel_rfl)
theorem args_next (a : Value) : argsOk "list_reverseiterator.__next__" ⟨[a], []⟩ := by unfold argsOk; kernel_rfl
theorem args_iter (a : Value) : argsOk "list_reverseiterator.__iter__" ⟨[a], []⟩ := by unfold argsOk; kernel_rfl
theorem look_len : typeLookup (.type "list_reverseiterator") "__len__" = pure none := by rw [typeLookup_type, builtinLookup_eq_fast]; kernel_rfl
theorem look_hint : typeLookup (.type "list_reverseiterator") "__length_hint__" = pure (some (.builtin "list_reverseiterator.__length_hint__")) := by rw [typeLookup_type, builtinLookup_eq_fast]; kernel_rfl
abbrev IsRev (h : Heap) (it l : Addr) (i : Int) : Prop := h.get? it = some { cls := .type "list_reverseiterator", data := .fields #[.ref l, rawInt i] }
section
variable {prog : Program} {w : World} {A : Around} {E : Value → Shared → Prop} {s : Shared} {it l : Addr} {items : Array Value}
theorem next_item {i : Nat} {x : Value} {Q : Option Value → Shared → Prop} (h1 : IsRev s.heap it l i) (hl : s.heap.IsList l items) (hx : items[i]? = some x)
    (hQ : ∀ h', IsRev h' it l ((i : Int) - 1) → Heap.SameBut it s.heap h' → Q (some x) { s with heap := h' }) : wpAny (model prog w) A (pyNext (.ref it)) Q E s := by
  obtain ⟨ol, hol, _, nl, hdl⟩ := hl
  have ty : s.TypeIs (.ref it) "list_reverseiterator" := ⟨_, h1, rfl⟩
  unfold pyNext
  refine wpAny_bind (wpAny_attempt (wpAny_callSpecial?_slot (name := Str.ofString "__next__") ty slot_next (wpAny_call_entry slot_next ty entry_next ?_ (args_next _))))
  show wpAny _ _ (field (.ref it) 1 >>= fun v => _) _ _ s
  refine wpAny_bind (wpAny_field h1 rfl (x := .int i 0) rfl ?_)
  show wpAny _ _ (if ((i : Int) < 0) then _ else _) _ _ s
  rw [if_neg (by omega)]
  show wpAny _ _ (field (.ref it) 0 >>= fun v => _) _ _ s
  refine wpAny_bind (wpAny_field h1 rfl (x := .ref l) rfl ?_)
  refine wpAny_bind (wpAny_seqItems hol hdl ?_)
  simp only [Int.toNat_natCast, hx]
  refine wpAny_bind (wpAny_setField_rec h1 (by simp) fun h' e1 sb => wpAny_pure ⟨x, rfl, wpAny_pure (hQ h' ?_ sb)⟩)
  exact e1
theorem next_end {Q : Option Value → Shared → Prop} (hh : A.handled = none) (h1 : IsRev s.heap it l (-1)) (hQ : ∀ h', Heap.ExtBut it s.heap h' → Q none { s with heap := h' }) : wpAny (model prog w) A (pyNext (.ref it)) Q E s := by
  have ty : s.TypeIs (.ref it) "list_reverseiterator" := ⟨_, h1, rfl⟩
  unfold pyNext
  refine wpAny_bind (wpAny_attempt (wpAny_callSpecial?_slot (name := Str.ofString "__next__") ty slot_next (wpAny_call_entry slot_next ty entry_next ?_ (args_next _))))
  show wpAny _ _ (field (.ref it) 1 >>= fun v => _) _ _ s
  refine wpAny_bind (wpAny_field h1 rfl (x := .int (-1) 0) rfl ?_)
  show wpAny _ _ (if ((-1 : Int) < 0) then _ else _) _ _ s
  rw [if_pos (by omega)]
  refine wpAny_bind (wpAny_rule ?_)
  refine wpAny_bind ?_
  unfold Builtin.SmallTypes.stopIteration
  refine wpAny_bind ?_
  unfold newExc newTuple
  refine wpAny_bind (wpAny_newObj_type ?_ (by size_fits))
  refine wpAny_bind (m := firstArgMember _ _) (wpAny_of_eq (a := Value.none) (by first | (simp only [firstArgMember]; rfl) | rfl) ?_)
  refine wpAny_newObj_type ?_ (by size_fits)
  unfold raiseNew
  refine wpAny_bind (wpAny_handled ?_)
  have hh1 : A.in1.handled = none := hh
  rw [hh1]
  refine wpAny_bind (wpAny_pure (wpAny_throw ?_))
  refine wpAny_bind (wpAny_isInstance (T := "StopIteration") (b := true) ⟨_, Heap.get?_push_size _ rfl, rfl⟩ isSubtype_stop (wpAny_pure (hQ _ ?_)))
  exact fun b o _ e => Heap.get?_push_of_some _ (Heap.get?_push_of_some _ e)
theorem walks (hh : A.handled = none) (hne : l ≠ it) : Walks prog w A it [it, l] [it] items.size (fun i v => items[items.size - 1 - i]? = some v) (fun i h => IsRev h it l ((items.size : Int) - 1 - (i : Nat)) ∧ h.IsList l items) where
  sub := fun b hb => by simp at hb; simp [hb]
  frame := fun _ _ _ st hk => ⟨hk it (by simp) _ st.1, st.2.at fun o e => hk l (by simp) o e⟩
  item := fun i s Q E hi st hQ => by
    have e1 : IsRev s.heap it l ((items.size - 1 - i : Nat) : Int) := by
      have := st.1
      rw [show ((items.size - 1 - i : Nat) : Int) = (items.size : Int) - 1 - (i : Nat) by omega]
      exact this
    have hx : items[items.size - 1 - i]? = some items[items.size - 1 - i] := by simp
    refine next_item e1 st.2 hx fun h' r' sb => hQ _ h' s.toks hx ⟨?_, st.2.extBut sb.extBut hne⟩ fun b o hb e => sb.extBut b o (fun z => hb (by simp [z])) e
    have := r'
    rw [show ((items.size - 1 - i : Nat) : Int) - 1 = (items.size : Int) - 1 - ((i + 1 : Nat) : Int) by omega] at this
    exact this
  done := fun s Q E st hQ => by
    have e1 : IsRev s.heap it l (-1) := by
      have := st.1
      rw [show (items.size : Int) - 1 - ((items.size : Nat) : Int) = -1 by omega] at this
      exact this
    exact next_end hh e1 fun h' eb => hQ h' s.toks fun b o hb e => eb b o (fun z => hb (by simp [z])) e
  self := fun i s Q E st hQ => by
    have ty : s.TypeIs (.ref it) "list_reverseiterator" := ⟨_, st.1, rfl⟩
    refine wpAny_pyIter_slot ty slot_iter (wpAny_call_entry slot_iter ty entry_iter ?_ (args_iter _))
    show wpAny _ _ (ret (.ref it)) _ _ s
    exact wpAny_pure ⟨_, rfl, "list_reverseiterator", _, ty, slot_next.lookup, hQ⟩
theorem hint {i : Int} {Q : Bool → Shared → Prop} (h1 : IsRev s.heap it l i) (h : Q false s) : wpAny (model prog w) A (Builtin.List.listLengthHint (.ref it)) Q E s := by
  have ty : s.TypeIs (.ref it) "list_reverseiterator" := ⟨_, h1, rfl⟩
  unfold Builtin.List.listLengthHint
  refine wpAny_bind (wpAny_specialOf ty look_len ?_)
  show wpAny _ _ (specialOf (.ref it) "__length_hint__" >>= fun v => _) _ _ s
  refine wpAny_bind (wpAny_specialOf ty look_hint ?_)
  generalize hid : ("list_reverseiterator.__length_hint__" : String) = id0
  (fail_if_success (clear hid id0))
  wp_delta
  rw [show splitId id0 = some ("list_reverseiterator", "__length_hint__") from by subst hid; decide +kernel]
  subst hid
  refine wpAny_bind (wpAny_isInstance (b := true) ty (by rw [isSubtype_type]; kernel_rfl) ?_)
  refine wpAny_ite_split (fun z => absurd z (by decide)) fun _ => ?_
  refine wpAny_ite_split (fun _ => ?_) fun z => absurd (by decide +kernel) z
  exact wpAny_ite_split (fun z => absurd z (by decide +kernel)) fun _ => wpAny_pure h
theorem extend {R : Result → Shared → Prop} (hh : A.handled = none) (h1 : IsRev s.heap it l ((items.size : Int) - 1)) (hl : s.heap.IsList l items) (hne : l ≠ it) (hz : items.size ≤ sizeLine) (S : Addr) (hSl : S ≠ l) (hSi : S ≠ it) (res : Value) (c₀ : Nat) (hS : s.heap.get? S = some { cls := .type "list", data := .seq #[] c₀ })
    (hR : ∀ h' tk acc' c', (∀ b o, b ≠ S → b ≠ it → s.heap.get? b = some o → h'.get? b = some o) → h'.get? S = some { cls := .type "list", dict := none, data := .seq acc' c', slots := #[] } → ItemsOf (fun i v => items[items.size - 1 - i]? = some v) acc' items.size → R (.ok (.ret res)) { s with heap := h', toks := tk }) :
    wpAny (model prog w) A.in1 (Builtin.List.listExtendWith (.ref S) (.ref it) res) (fun fin s' => match fin with | .done f => R (.ok f) s' | .again c' => c'.quiet = true ∧ codeAny (model prog w) A c' R s') (fun e s' => R (.error e) s') s := by
  have ty : s.TypeIs (.ref it) "list_reverseiterator" := ⟨_, h1, rfl⟩
  have W := walks (prog := prog) (w := w) (A := A.in1) (it := it) (l := l) (items := items) hh hne
  have st : IsRev s.heap it l ((items.size : Int) - 1 - ((0 : Nat) : Int)) ∧ s.heap.IsList l items := ⟨by simpa using h1, hl⟩
  unfold Builtin.List.listExtendWith
  refine wpAny_bind (wpAny_typeOf ty ?_)
  have q1 : Builtin.List.listSameRef (.ref S) (.ref it) = false := by simp [Builtin.List.listSameRef, hSi]
  have q2 : (Value.type "list_reverseiterator" == Value.type "list") = false := by decide
  have q3 : (Value.type "list_reverseiterator" == Value.type "tuple") = false := by decide
  simp only [q1, q2, q3, Bool.or_self, Bool.false_eq_true, if_false]
  refine wpAny_bind (W.self 0 s _ _ st ?_)
  refine wpAny_bind (wpAny_holding (hint h1 ?_))
  refine wpAny_ite_split (fun z => absurd z (by decide +kernel)) fun _ => wpAny_pure ⟨plainId_quiet F.plain_extend_loop _, ?_⟩
  refine codeAny_extend_loopS W.toS hz S (fun m => ?_) res items.size 0 s #[] c₀ rfl (Nat.zero_le _) st hS (ItemsOf.nil _) fun s' acc' c' hm hS' hacc => ?_
  · rcases List.mem_cons.mp m with z | z
    · exact hSi z
    · exact hSl (List.mem_singleton.mp z)
  · rw [Moved.eq_with hm]
    refine hR s'.heap s'.toks acc' c' (fun b o hb hi e => hm.heap b o (fun z => ?_) e) hS' hacc
    rcases List.mem_cons.mp z with z | z
    · exact hb z
    · exact hi (List.mem_singleton.mp z)
theorem call_list {Q : Value → Shared → Prop} (hh : A.handled = none) (h1 : IsRev s.heap it l ((items.size : Int) - 1)) (hl : s.heap.IsList l items) (hne : l ≠ it) (hz : items.size ≤ sizeLine)
    (hQ : ∀ h' tk acc' c', (∀ b o, b ≠ it → s.heap.get? b = some o → h'.get? b = some o) → h'.get? s.heap.objs.size = some { cls := .type "list", dict := none, data := .seq acc' c', slots := #[] } → ItemsOf (fun i v => items[items.size - 1 - i]? = some v) acc' items.size → Q (.ref s.heap.objs.size) { s with heap := h', toks := tk }) :
    wpAny (model prog w) A (call (.type "list") [.ref it]) Q E s := by
  have li : it < s.heap.objs.size := Heap.lt_size h1
  have ll : l < s.heap.objs.size := let ⟨o, e, _⟩ := hl; Heap.lt_size e
  refine callType_codes (Q₁ := fun obj s₁ => obj = .ref s.heap.objs.size ∧ s₁ = { s with heap := s.heap.push { cls := .type "list", data := .seq #[] } }) F.called_list (F.typeCall_list_1 _) F.entry_list_init (code_list_new _ ⟨rfl, rfl⟩) fun obj s₁ g => ?_
  obtain ⟨rfl, rfl⟩ := g
  have hS : (s.heap.push { cls := .type "list", data := .seq #[] }).get? s.heap.objs.size = some { cls := .type "list", data := .seq #[] } := Heap.get?_push_size _ rfl
  refine ⟨⟨_, hS, rfl⟩, F.args_list_init_2 _ _, ?_⟩
  show wpAny _ _ (Builtin.List.listItems (.ref s.heap.objs.size) >>= fun old => Builtin.List.listUpdate (.ref s.heap.objs.size) (fun _ => #[]) >>= fun _ => letGo old.toList.reverse >>= fun _ => Builtin.List.listExtendWith (.ref s.heap.objs.size) (.ref it) .none) _ _ _
  refine wpAny_bind ?_
  unfold Builtin.List.listItems
  refine wpAny_bind (wpAny_seqItems hS rfl (wpAny_pure ?_))
  refine wpAny_bind ?_
  show wpAny _ _ (updateSeq s.heap.objs.size (fun _ => #[])) _ _ _
  refine wpAny_updateSeq hS rfl ?_
  have hS₂ := Heap.get?_update_self (Obj.mapSeq (fun _ => (#[] : Array Value))) hS rfl
  have old : ∀ b o, s.heap.get? b = some o → ((s.heap.push { cls := .type "list", data := .seq #[] }).update s.heap.objs.size (Obj.mapSeq (fun _ => (#[] : Array Value)))).get? b = some o := fun b o e =>
    (Heap.get?_update_other _ _ (Nat.ne_of_gt (Heap.lt_size e))).trans (Heap.get?_push_of_some _ e)
  refine wpAny_bind (wpAny_letGo ?_)
  refine extend (A := A.in1) hh (old _ _ h1) (hl.at fun o e => old _ _ e) hne hz _ (Nat.ne_of_gt ll) (Nat.ne_of_gt li) .none _ hS₂ fun h' tk acc' c' hk hS' hacc => ?_
  exact ⟨rfl, hQ h' tk acc' c' (fun b o hb e => hk b o (Nat.ne_of_lt (Heap.lt_size e)) hb (old b o e)) hS' hacc⟩
end
end Rv
end L2
namespace L2
open PySem PySem.Spec PyProof.Rows
namespace Rv
theorem sub_rev : isSubtype (.type "reversed") (.type "reversed") = pure true := by rw [isSubtype_type]; kernel_rfl
theorem look_rev : typeLookup (.type "list") "__reversed__" = pure (some (.builtin "list.__reversed__")) := by rw [typeLookup_type, builtinLookup_eq_fast]; kernel_rfl
theorem new_rev (l : Addr) (items : Array Value) (n : Nat) : Meets (Builtin.«reversed.__new__» ⟨[.type "reversed", .ref l], []⟩) (fun _ R s => s.heap.get? l = some { cls := .type "list", data := .seq items n } ∧
    R (.ok (.ret (.ref s.heap.objs.size))) { s with heap := s.heap.push { cls := .type "list_reverseiterator", data := .fields #[.ref l, rawInt ((items.size : Int) - 1)] } }) := .of_wp fun prog w A R s h => by
  obtain ⟨hp, g, d, tk, os⟩ := s
  obtain ⟨hl, h⟩ := h
  have hsub := sub_rev
  have ty : Shared.TypeIs ⟨hp, g, d, tk, os⟩ (.ref l) "list" := ⟨_, hl, rfl⟩
  wp_walk using wpAny_specialOf ty look_rev
  refine wpAny_of_eq (F.slot_list_reversed.bind (.ref l)) ?_
  refine wpAny_ite_split (fun z => absurd z (by decide)) fun _ => ?_
  refine wpAny_bind (wpAny_rule ?_)
  show wpAny _ _ (call (.builtin "list.__reversed__") [.ref l] >>= fun v => _) _ _ _
  refine wpAny_bind (call_meets F.slot_list_reversed ty F.entry_list_reversed (F.args_list_reversed_1 _) (AutoListH.list___reversed___list_0 l items n) ⟨hl, ?_⟩)
  exact wpAny_pure ⟨_, rfl, h⟩
theorem mro_rev : mroOf (.type "reversed") = pure [.type "reversed", .type "object"] := by rw [mroOf_type]; kernel_rfl
theorem look_new : typeLookup (.type "reversed") "__new__" = pure (some (.builtin "reversed.__new__")) := by rw [typeLookup_type, builtinLookup_eq_fast]; kernel_rfl
theorem made_rev : Bind.madeBy (.type "reversed") = pure (some "reversed.__new__") := madeBy_type mro_rev look_new (by decide +kernel)
theorem entry_new : entryFor table "reversed.__new__" = some Builtin.«reversed.__new__» := entryFor_of_tree (by kernel_rfl)
theorem tcall (a : Value) : checkTypeCall "reversed" ⟨[a], []⟩ = pure () := by kernel_rfl
theorem ncall (a : Value) : checkBuiltinCall "reversed.__new__" ⟨[.type "reversed", a], []⟩ = pure () := by kernel_rfl
theorem nosub : isSubtype (.type "list_reverseiterator") (.type "reversed") = pure false := by rw [isSubtype_type]; kernel_rfl
section
variable {prog : Program} {w : World} {A : Around} {E : Value → Shared → Prop} {s : Shared} {l : Addr} {items : Array Value} {n : Nat}
theorem call_rev {Q : Value → Shared → Prop} (hl : s.heap.get? l = some { cls := .type "list", data := .seq items n })
    (hQ : Q (.ref s.heap.objs.size) { s with heap := s.heap.push { cls := .type "list_reverseiterator", data := .fields #[.ref l, rawInt ((items.size : Int) - 1)] } }) : wpAny (model prog w) A (call (.type "reversed") [.ref l]) Q E s := by
  have hmro := mro_rev
  have hmade := made_rev
  have hsub := sub_rev
  have hns := nosub
  have hct := tcall (.ref l)
  refine wpAny_call (codeAny_of_tree ?_)
  show wpAny _ _ (callAny (.type "reversed") _) _ _ _
  refine wpAny_pure ⟨Code.quiet_builtin _ (by decide +kernel), codeAny_builtin F.entry_type_call ?_⟩
  rw [Around.under_plain (weight_type_call_type "reversed" [.ref l] []) rfl]
  have g1 : (Value.type "reversed" == Value.type "type") = false := by decide +kernel
  have g2 : ((Manifest.find? "reversed").bind (·.mro.findSome? fun t => (Manifest.find? t).bind fun b => if b.noNew then some true else if b.attrs.any (·.1 == "__new__") then some false else none)).getD false = false := by decide +kernel
  repeat (any_goals (first | assumption | wp_step))
  have hn : codeAny (model prog w) A.in1 (.call (.builtin "reversed.__new__") ⟨[.type "reversed", .ref l], []⟩) (fun r s' => r = .ok (.ret (.ref s.heap.objs.size)) ∧ s' = { s with heap := s.heap.push { cls := .type "list_reverseiterator", data := .fields #[.ref l, rawInt ((items.size : Int) - 1)] } }) s :=
    codeAny_call_builtin (by decide +kernel) entry_new (wpAny_of_eq (ncall (.ref l)) (new_rev l items n prog w A.in1 (fun r s' => r = .ok (.ret (.ref s.heap.objs.size)) ∧ s' = { s with heap := s.heap.push { cls := .type "list_reverseiterator", data := .fields #[.ref l, rawInt ((items.size : Int) - 1)] } }) s ⟨hl, rfl, rfl⟩))
  refine codeAny_mono hn fun r s₁ hr => ?_
  obtain ⟨rfl, rfl⟩ := hr
  have ty : Shared.TypeIs { s with heap := s.heap.push { cls := .type "list_reverseiterator", data := .fields #[.ref l, rawInt ((items.size : Int) - 1)] } } (.ref s.heap.objs.size) "list_reverseiterator" := ⟨_, Heap.get?_push_size _ rfl, rfl⟩
  refine wpAny_bind (wpAny_isInstance (b := false) ty nosub ?_)
  refine wpAny_ite_split (fun _ => ?_) fun z => absurd rfl z
  refine wpAny_bind (wpAny_rule ?_)
  exact wpAny_pure hQ
end
end Rv
section
variable {X : Cx} {a : Expr} {ta : TE} {p1 p2 p3 pos : Pos}
def tRev (ta : TE) : TE := fun σ H Q => ta σ H fun x H1 => ∃ p xs, x = .ref p ∧ H1 p = some (.lst xs) ∧ ∀ l, H1 l = none → Q (.ref l) (upd H1 l (.lst xs.reverse))
theorem items_rev {xs : List V} {its : List Value} {acc : Array Value} (hv : Vals xs its) (h : ItemsOf (fun i v => its.toArray[its.toArray.size - 1 - i]? = some v) acc its.toArray.size) : Vals xs.reverse acc.toList := by
  have e : acc.toList = its.reverse := by
    have h1 : acc.size = its.length := by have := h.1; simpa using this
    have h2 := h.2
    refine List.ext_getElem? fun i => ?_
    by_cases hi : i < its.length
    · have hs : acc[i]? = some (acc[i]'(by omega)) := by simp
      have := h2 i _ hs
      dsimp only at this
      rw [List.size_toArray, List.getElem?_toArray] at this
      rw [List.getElem?_reverse hi, this, Array.getElem?_toList, hs]
    · rw [List.getElem?_eq_none (by rw [Array.length_toList]; omega), List.getElem?_eq_none (by rw [List.length_reverse]; omega)]
  rw [e]
  exact hv.reverse
theorem Inv.turnNew {pins : List (Addr × Obj)} {σ : St} {H : Hp} {s : Shared} {h' : Heap} {ch : List Addr} {T : Addr} {o : HO} {t' : Nat} (I : Inv X pins σ H s) (hf : ∀ b ∈ ch, FpOk X pins H b) (k : ∀ b o, b ∉ ch → s.heap.get? b = some o → h'.get? b = some o)
    (hT : s.heap.objs.size ≤ T) (new : ObjOk X.prog X.w (upd H T o) h' T o) : Inv X pins σ (upd H T o) { s with heap := h', toks := t' } := by
  have nT : H T = none := I.hok.fresh hT
  have nch : ∀ b u, H b = some u → b ∉ ch := fun b u e m => by rw [(hf b m).1] at e; cases e
  refine I.step (g' := s.gens) (d' := s.drawn) (ch := ch) (fun b m => ⟨(hf b m).2.2.2.1, (hf b m).2.1, (hf b m).2.2.2.2.1, (hf b m).2.2.2.2.2⟩) (fun b o _ _ m e _ => k b o m e) (fun b o _ _ m e _ => ⟨o.slots, k b o m e⟩)
    (fun b o _ e n => by rw [upd_ne (Nat.ne_of_lt (Nat.lt_of_lt_of_le (Heap.lt_size e) hT))]; exact n) (fun b o m e => ⟨o, k b o m e⟩) (fun b xs e => by rw [upd_ne (ne_of_none e nT)]; exact e) (fun b o u e => by rw [upd_ne (ne_of_none e nT)]; exact e)
    (fun b ps e => ⟨#[], by rw [upd_ne (ne_of_none e nT), e]; simp⟩) (fun m hm => ?_) (fun b u e => ?_) I.bare
  · obtain ⟨o, es, ep, ho, r⟩ := hm
    exact ⟨o, es, ep, k _ o (fun m => (hf _ m).2.1 rfl) ho, r⟩
  · by_cases hb : b = T
    · subst hb; rw [upd_same] at e; cases e; exact new
    · rw [upd_ne hb] at e
      refine (I.hok b u e).stay (fun c v hc q => k c v ?_ q) (fun c q => by rw [upd_ne (ne_of_none q nT)]; exact q) fun c xs q => by rw [upd_ne (ne_of_none q nT)]; exact q
      rcases hc with z | z
      · rw [z]; exact nch b u e
      · exact nch c _ z
theorem Inv.turnL {pins : List (Addr × Obj)} {σ : St} {H : Hp} {s : Shared} {h' : Heap} {ch : List Addr} {t' : Nat} (I : Inv X pins σ H s) (hf : ∀ b ∈ ch, FpOk X pins H b) (k : ∀ b o, b ∉ ch → s.heap.get? b = some o → h'.get? b = some o) : Inv X pins σ H { s with heap := h', toks := t' } := by
  have nch : ∀ b u, H b = some u → b ∉ ch := fun b u e m => by rw [(hf b m).1] at e; cases e
  refine I.step (g' := s.gens) (d' := s.drawn) (ch := ch) (fun b m => ⟨(hf b m).2.2.2.1, (hf b m).2.1, (hf b m).2.2.2.2.1, (hf b m).2.2.2.2.2⟩) (fun b o _ _ m e _ => k b o m e) (fun b o _ _ m e _ => ⟨o.slots, k b o m e⟩)
    (fun b o _ e n => n) (fun b o m e => ⟨o, k b o m e⟩) (fun b xs e => e) (fun b o u e => e) (fun b ps e => ⟨#[], by rw [e]; simp⟩) (fun m hm => ?_) (fun b u e => ?_) I.bare
  · obtain ⟨o, es, ep, ho, r⟩ := hm
    exact ⟨o, es, ep, k _ o (fun m => (hf _ m).2.1 rfl) ho, r⟩
  · refine (I.hok b u e).stay (fun c v hc q => k c v ?_ q) (fun c q => q) fun c xs q => q
    rcases hc with z | z
    · rw [z]; exact nch b u e
    · exact nch c _ z
theorem pe_rev (hc : X.calm = true) (hm : X.mg "list" = none) (hm2 : X.mg "reversed" = none) (ha : PE X a ta) (hg : Gl X "list" := by rfl) (hg2 : Gl X "reversed" := by rfl) (hs : starEach [a] X.env = [(false, eval a X.env)] := by rfl)
    (hs2 : starEach [.Call (.Name "reversed" p2) [a] [] p3] X.env = [(false, eval (.Call (.Name "reversed" p2) [a] [] p3) X.env)] := by rfl) : PE X (.Call (.Name "list" p1) [.Call (.Name "reversed" p2) [a] [] p3] [] pos) (tRev ta) := by
  intro pins s σ H Q I h
  refine wpAny_Call_Name_kw (ld_blt I hg hm (show bootBuiltins "list" = some (.type "list") by decide +kernel) ?_)
  refine PyProof.Rows.callWith_type1 ?_ hs2 rfl
  rw [hs2]
  refine Calls.spliced_cons ?_
  refine wpAny_Call_Name_kw (ld_blt I hg2 hm2 boot_reversed ?_)
  refine PyProof.Rows.callWith_type1 ?_ hs rfl
  rw [hs]
  refine Calls.spliced_cons (thn (ha pins s σ H _ I h) fun u s1 ⟨x, H1, I1, r1, q1⟩ => ?_)
  refine Calls.spliced_nil ?_
  obtain ⟨p, xs, rfl, hp, q⟩ := q1
  cases r1
  obtain ⟨z, its, n, hv, hl, e⟩ := I1.lstM hp
  refine Rv.call_rev e ?_
  refine Calls.spliced_nil ?_
  have lp : p < s1.heap.objs.size := Heap.lt_size e
  have I2 : Inv X pins σ H1 { s1 with heap := s1.heap.push { cls := .type "list_reverseiterator", data := .fields #[.ref p, rawInt ((its.toArray.size : Int) - 1)] } } := I1.kept (t' := s1.toks) fun b o e => Heap.get?_push_of_some _ e
  refine Rv.call_list (items := its.toArray) (l := p) (I2.ok.hd hc) (Heap.get?_push_size _ rfl) ⟨_, Heap.get?_push_of_some _ e, rfl, _, rfl⟩ (Nat.ne_of_lt lp) (by rw [List.size_toArray]; omega) fun h' tk acc' c' hk hS' hacc => ?_
  have f := I1.fpOk (H' := H1) (Nat.le_refl _) (I1.hok.fresh (Nat.le_refl _))
  refine ⟨.ref _, _, I2.turnNew (ch := [s1.heap.objs.size]) (fun b m => by rw [List.mem_singleton.mp m]; exact f) (fun b o m e => hk b o (fun z => m (by rw [z]; exact List.mem_singleton.mpr rfl)) e) (Nat.le_refl _) (show ObjOk X.prog X.w _ h' _ (.lst xs.reverse) from ⟨by rw [List.length_reverse]; exact z, acc'.toList, c', items_rev hv hacc, by simpa using hS'⟩), rfl, q _ (I2.hok.fresh (Nat.le_refl _))⟩
end
end L2
namespace L2
open PySem PySem.Spec PyProof.Rows
def Itz (K : PySem.W.Frag) (l1 l2 : Addr) : It :=
  ⟨fun i H => ∃ xs ys x y, SqL K H l1 xs ∧ SqL K H l2 ys ∧ xs[i]? = some x ∧ ys[i]? = some y,
   fun i H v H' => ∃ T a b, H T = none ∧ v = .ref T ∧ H' = upd H T (.tup [a, b]) ∧ (∀ xs, SqL K H l1 xs → xs[i]? = some a) ∧ ∀ ys, SqL K H l2 ys → ys[i]? = some b,
   fun i H => ∃ xs ys, SqL K H l1 xs ∧ SqL K H l2 ys ∧ (xs.length ≤ i ∨ ys.length ≤ i)⟩
def ZipSt (z TI TO i1 i2 l1 l2 : Addr) (i : Nat) (h : Heap) : Prop := IsZip h z TI TO .none ∧ IsPair h TI (.ref i1) (.ref i2) ∧ (∃ a b, IsPair h TO a b) ∧ h.IsListIter i1 l1 i ∧ h.IsListIter i2 l2 i
theorem turn_zip {P : Program} {w : World} {K : PySem.W.Frag} {elts : List Expr} {x1} {pos : Pos} {z TI TO i1 i2 l1 l2 : Addr} (D : ZipApart z TI TO i1 i2 l1 l2) :
    Turn P w K (.Tuple elts x1 pos) (Itz K l1 l2) [z, TI, TO, i1, i2] z (ZipSt z TI TO i1 i2 l1 l2) where
  mem := by simp
  obj := fun i h st b hb => by
    obtain ⟨s1, s2, ⟨a, b', s3⟩, ⟨o4, e4, c4, d4⟩, ⟨o5, e5, c5, d5⟩⟩ := st
    simp only [List.mem_cons, List.not_mem_nil, or_false] at hb
    rcases hb with rfl | rfl | rfl | rfl | rfl
    · exact ⟨_, s1, fun v q => by cases q⟩
    · exact ⟨_, s2, fun v q => by cases q⟩
    · exact ⟨_, s3, fun v q => by cases q⟩
    · exact ⟨o4, e4, fun v q => by rw [d4] at q; cases q⟩
    · exact ⟨o5, e5, fun v q => by rw [d5] at q; cases q⟩
  keep := fun i h h' st k => by
    obtain ⟨s1, s2, ⟨a, b', s3⟩, s4, s5⟩ := st
    exact ⟨k _ (by simp) _ s1, k _ (by simp) _ s2, ⟨a, b', k _ (by simp) _ s3⟩, s4.at fun o e => k _ (by simp) o e, s5.at fun o e => k _ (by simp) o e⟩
  item := by
    intro X hP hw hK hc i pins s σ H E I hf st hg
    subst hP hw hK
    obtain ⟨s1, s2, ⟨a, b', s3⟩, s4, s5⟩ := st
    obtain ⟨xs, ys, x, y, q1, q2, e1, e2⟩ := hg
    obtain ⟨us, v1, p1, z1⟩ := I.list q1
    obtain ⟨ws, v2, p2, z2⟩ := I.list q2
    obtain ⟨u, hu, ru⟩ := v1.get e1
    obtain ⟨t, ht, rt⟩ := v2.get e2
    refine wpAny_pyNext_zip_item D s1 s2 s3 s4 s5 p1.isList p2.isList (x := u) (y := t) (by simpa using hu) (by simpa using ht) fun h' a1 a2 a3 a4 a5 a6 a7 => ⟨_, rfl, ?_⟩
    refine wpAny_letOwnedTupleGo_zip a1 fun h'' b1 b2 => ?_
    have lz : z < s.heap.objs.size := Heap.lt_size s1
    have nz : s.heap.objs.size ≠ z := Nat.ne_of_gt lz
    have T2 : IsPair h'' s.heap.objs.size u t := b2.extBut _ _ nz a5
    have nT : H s.heap.objs.size = none := I.hok.fresh (Nat.le_refl _)
    have I1 : Inv X pins σ (upd H s.heap.objs.size (.tup [x, y])) { s with heap := h'' } := I.turnNew (t' := s.toks) (ch := [z, TO, i1, i2]) (fun b m => hf b (by
        simp only [List.mem_cons, List.not_mem_nil, or_false] at m ⊢
        rcases m with rfl | rfl | rfl | rfl <;> simp)) (fun b o m e => by
        simp only [List.mem_cons, List.not_mem_nil, or_false, not_or] at m
        exact b2.extBut _ _ m.1 (a7 b o m.1 m.2.1 m.2.2.1 m.2.2.2 e)) (Nat.le_refl _) (show ObjOk X.prog X.w _ h'' _ (.tup [x, y]) from ⟨show 2 ≤ sizeLine by unfold sizeLine; omega, [u, t], .cons ru (.cons rt .nil), ⟨_, T2, rfl, rfl, _, rfl⟩⟩)
    refine ⟨.ref s.heap.objs.size, _, I1, rfl, ⟨_, x, y, nT, rfl, rfl, fun xs' h => by rw [I.list_inj h q1]; exact e1, fun ys' h => by rw [I.list_inj h q2]; exact e2⟩, ?_, fun b m => ?_⟩
    · have up : ∀ c o, c ≠ z → h'.get? c = some o → h''.get? c = some o := fun c o n e => b2.extBut _ _ n e
      exact ⟨b1, up _ _ D.TIz (a7 TI _ D.TIz D.TITO D.TIi1 D.TIi2 s2), ⟨u, t, up _ _ D.TOz a2⟩, a3.at fun o e => up _ o D.i1z e, a4.at fun o e => up _ o D.i2z e⟩
    · rw [upd_ne]
      · exact (hf b m).1
      · rintro rfl
        obtain ⟨o4, e4, _⟩ := id s4
        obtain ⟨o5, e5, _⟩ := id s5
        simp only [List.mem_cons, List.not_mem_nil, or_false] at m
        rcases m with m | m | m | m | m
        · exact nz m
        · exact absurd (Heap.lt_size s2) (by rw [← m]; exact Nat.lt_irrefl _)
        · exact absurd (Heap.lt_size s3) (by rw [← m]; exact Nat.lt_irrefl _)
        · exact absurd (Heap.lt_size e4) (by rw [← m]; exact Nat.lt_irrefl _)
        · exact absurd (Heap.lt_size e5) (by rw [← m]; exact Nat.lt_irrefl _)
  done := by
    intro X hP hw hK hc i pins s σ H E I hf st hg
    subst hP hw hK
    obtain ⟨s1, s2, ⟨a, b', s3⟩, s4, s5⟩ := st
    obtain ⟨xs, ys, q1, q2, e⟩ := hg
    obtain ⟨us, v1, p1, z1⟩ := I.list q1
    obtain ⟨ws, v2, p2, z2⟩ := I.list q2
    have l1 := v1.length
    have l2 := v2.length
    refine wpAny_pyNext_zip_end (I.ok.hd hc) D s1 s2 s3 s4 s5 p1.isList p2.isList (e.imp (fun e => by simp; omega) fun e => by simp; omega) fun h' k => ⟨rfl, I.turnL (t' := s.toks) (ch := [z, TO, i1, i2]) (fun b m => hf b (by
        simp only [List.mem_cons, List.not_mem_nil, or_false] at m ⊢
        rcases m with rfl | rfl | rfl | rfl <;> simp)) fun b o m e => ?_⟩
    simp only [List.mem_cons, List.not_mem_nil, or_false, not_or] at m
    exact k b o m.1 m.2.1 m.2.2.1 m.2.2.2 e
  self := fun _ _ _ _ _ st h => wpAny_pyIter_zip st.1 h
section
variable {X : Cx} {elts : List Expr} {tp : Pos} {a b : Expr} {ta : TA} {p pos : Pos}
def iZip (K : PySem.W.Frag) (ta : TA) : TI := fun σ H R => ta σ H fun vs H1 => ∃ l1 l2 xs ys, vs = [.ref l1, .ref l2] ∧ SqL K H1 l1 xs ∧ SqL K H1 l2 ys ∧ R (Itz K l1 l2) H1
theorem pi_zip {x1} (hg : Gl X "zip") (hm : X.mg "zip" = none) (ha : PA X [a, b] ta) (hs : starEach [a, b] X.env = [(false, eval a X.env), (false, eval b X.env)] := by rfl) (hs2 : starEach [b] X.env = [(false, eval b X.env)] := by rfl) :
    PI X (.Tuple elts x1 tp) (.Call (.Name "zip" p) [a, b] [] pos) (iZip X.K ta) := by
  intro pins s σ H R I h
  refine wpAny_Call_Name_kw (ld_blt I hg hm boot_zip (PyProof.Rows.callWith_type1 (thn (ha pos pins s σ H _ I h) fun us s1 ⟨vs, H1, I1, r1, q1⟩ => ?_) (by rw [hs, hs2]) (by rw [hs2]; rfl)))
  obtain ⟨l1, l2, xs, ys, rfl, h1, h2, q⟩ := q1
  obtain ⟨u, v, rfl, ru, rv⟩ := vals2 r1
  cases ru
  cases rv
  obtain ⟨us, v1, p1, z1⟩ := I1.list h1
  obtain ⟨ws, v2, p2, z2⟩ := I1.list h2
  have b1 : l1 < s1.heap.objs.size := let ⟨o, n, e, _⟩ := p1; Heap.lt_size e
  have b2 : l2 < s1.heap.objs.size := let ⟨o, n, e, _⟩ := p2; Heap.lt_size e
  refine call_zip_2 p1.isList p2.isList fun h' g1 g2 g3 g4 g5 g6 k => ?_
  refine wpAny_pyIter_zip g1 ?_
  refine ⟨_, _, _, _, H1, rfl, I1.kept (t' := s1.toks) k, turn_zip (zipApart_new b1 b2), ⟨g1, g2, ⟨_, _, g3⟩, g4, g5⟩, fun c hc => ?_, q⟩
  have up : ∀ j, FpOk X pins H1 (s1.heap.objs.size + j) := fun j => I1.fpOk (Nat.le_add_right _ _) (I1.hok.fresh (Nat.le_add_right _ _))
  simp only [List.mem_cons, List.not_mem_nil, or_false] at hc
  rcases hc with rfl | rfl | rfl | rfl | rfl
  · exact up 4
  · exact up 2
  · exact up 3
  · exact up 0
  · exact up 1
end
end L2
namespace L2.Ev
open PySem PySem.Spec PyProof.Rows
section
variable {X : Cx} {elts : List Expr} {tp : Pos} {a b : Expr} {fa fb : EF} {p pos : Pos}
def iZipF (fa fb : EF) : IF := fun ρ => match fa ρ, fb ρ with
  | some (.lst ds, t1), some (.lst es, t2) => if (immAll ds && immAll es) = true then some ((ds.zip es).map fun p => .tup [p.1, p.2], joinA [(.lst ds, t1), (.lst es, t2)]) else none
  | _, _ => none
theorem Reps.get0 {K : PySem.W.Frag} {H : Hp} {ds : List D} {vs : List V} {i : Nat} {d : D} (r : Reps K H ds vs []) (e : ds[i]? = some d) : ∃ v, vs[i]? = some v ∧ Rep K H d v [] := by
  obtain ⟨v, f, e1, r1, s⟩ := r.get e
  have : f = [] := List.eq_nil_iff_forall_not_mem.mpr fun a m => by have := s a m; cases this
  subst this
  exact ⟨v, e1, r1⟩
theorem itOk_zip {K : PySem.W.Frag} {l1 l2 : Addr} {ds es : List D} {f1 f2 : List Addr} (c1 : immAll ds = true) (c2 : immAll es = true) :
    ItOk K (Itz K l1 l2) ((ds.zip es).map fun p => .tup [p.1, p.2]) [⟨.lst ds, .ref l1, f1⟩, ⟨.lst es, .ref l2, f2⟩] := by
  intro H i hh
  obtain ⟨p1, xs, g1, e1, q1, r1, _⟩ := (hh _ List.mem_cons_self).lst_of
  obtain ⟨p2, ys, g2, e2, q2, r2, _⟩ := (hh _ (List.mem_cons_of_mem _ List.mem_cons_self)).lst_of
  cases e1
  cases e2
  have n1 := r1.imm c1
  have n2 := r2.imm c2
  subst n1 n2
  refine ⟨fun d hd => ?_, fun hl => ?_⟩
  · rw [List.getElem?_map] at hd
    cases hz : (ds.zip es)[i]? with
    | none => rw [hz] at hd; cases hd
    | some pr =>
      rw [hz] at hd
      cases hd
      obtain ⟨k1, k2⟩ := List.getElem?_zip_eq_some.mp hz
      obtain ⟨x, hx, rx⟩ := r1.get0 k1
      obtain ⟨y, hy, ry⟩ := r2.get0 k2
      refine ⟨⟨xs, ys, x, y, q1, q2, hx, hy⟩, fun v H1 hv => ?_⟩
      obtain ⟨T, a, b, hT, rfl, rfl, ha, hb⟩ := hv
      have ea := ha xs q1
      have eb := hb ys q2
      rw [hx] at ea
      rw [hy] at eb
      cases ea
      cases eb
      have s2 : Same H (upd H T (.tup [x, y])) := fun b o e => by rw [upd_ne (ne_of_none e hT)]; exact e
      exact ⟨s2, [], .tup (SqT.of upd_same) (Reps.cons (f1 := []) (f2 := []) (rx.same s2) (Reps.cons (f1 := []) (f2 := []) (ry.same s2) .nil)), fun a m => nomatch m⟩
  · rw [List.length_map, List.length_zip, r1.length, r2.length] at hl
    exact ⟨xs, ys, q1, q2, by omega⟩
theorem fi_zip {x1} (hm : X.mg "zip" = none) (ha : FP X a fa) (hb : FP X b fb) (hg : Gl X "zip" := by rfl) (hs : starEach [a, b] X.env = [(false, eval a X.env), (false, eval b X.env)] := by rfl) (hs2 : starEach [b] X.env = [(false, eval b X.env)] := by rfl) :
    FI X (.Tuple elts x1 tp) (.Call (.Name "zip" p) [a, b] [] pos) (iZipF fa fb) := by
  obtain ⟨t, pa, hlen, q⟩ := fa_cons ha (fa_cons hb fa_nil hs2) (by rw [hs, hs2])
  refine ⟨_, pi_zip hg hm pa hs hs2, fun H0 S z held ρ σ H R ds tg ok e k => ?_⟩
  unfold iZipF at e
  split at e
  · rename_i d1 t1 d2 t2 h1 h2
    by_cases hc : (immAll d1 && immAll d2) = true
    · rw [if_pos hc] at e
      cases e
      obtain ⟨c1, c2⟩ := (Bool.and_eq_true _ _).mp hc
      refine q H0 S z held ρ σ H _ [(.lst d1, t1), (.lst d2, t2)] ok (by unfold aCons aNil; rw [h1, h2]) fun H1 vs fp s1 r g => ?_
      cases r with
      | @cons _ v1 _ _ f1 _ r1 r =>
        cases r with
        | @cons _ v2 _ _ f2 _ r2 r =>
          cases r
          obtain ⟨l1, xs, g1, rfl, q1, _, _⟩ := r1.lst_of
          obtain ⟨l2, ys, g2, rfl, q2, _, _⟩ := r2.lst_of
          refine ⟨l1, l2, xs, ys, rfl, q1, q2, k H1 _ [⟨.lst d1, .ref l1, f1⟩, ⟨.lst d2, .ref l2, f2⟩] s1 (fun h m => ?_) (itOk_zip c1 c2)⟩
          have go := g.over ok
          rcases List.mem_cons.mp m with rfl | m
          · exact ⟨r1, fun a ma => go a (List.mem_append_left _ ma)⟩
          · cases List.mem_singleton.mp m
            exact ⟨r2, fun a ma => go a (List.mem_append_right _ (List.mem_append_left _ ma))⟩
    · rw [if_neg hc] at e; cases e
  · cases e
def oRev : D → Option D
  | .lst ds => if immAll ds = true then some (.lst ds.reverse) else none
  | _ => none
theorem Reps.rev0 {K : PySem.W.Frag} {H : Hp} : ∀ {ds : List D} {xs : List V}, Reps K H ds xs [] → Reps K H ds.reverse xs.reverse []
  | [], _, r => by cases r; exact .nil
  | d :: ds, xs, r => by
    generalize hf : ([] : List Addr) = fp at r
    cases r with
    | @cons _ _ _ _ f1 f2 r1 r2 =>
      obtain ⟨z1, z2⟩ := List.append_eq_nil_iff.mp hf.symm
      subst z1 z2
      rw [List.reverse_cons, List.reverse_cons]
      exact Reps.append (f := []) (g := []) (Reps.rev0 r2) (Reps.cons (f1 := []) (f2 := []) r1 .nil)
theorem fp_rev {p2 p3 : Pos} (hc : X.calm = true) (hm : X.mg "list" = none) (hm2 : X.mg "reversed" = none) (ha : FP X a fa) (hg : Gl X "list" := by rfl) (hg2 : Gl X "reversed" := by rfl) (hs : starEach [a] X.env = [(false, eval a X.env)] := by rfl)
    (hs2 : starEach [.Call (.Name "reversed" p2) [a] [] p3] X.env = [(false, eval (.Call (.Name "reversed" p2) [a] [] p3) X.env)] := by rfl) : FP X (.Call (.Name "list" p) [.Call (.Name "reversed" p2) [a] [] p3] [] pos) (e1 oRev fa) := by
  obtain ⟨t, pa, q⟩ := ha
  refine ⟨_, pe_rev hc hm hm2 pa hg hg2 hs hs2, fun H0 S z held ρ σ H Q d tg ok e k => ?_⟩
  obtain ⟨d1, t1, g1, g2, rfl⟩ := e1_of e
  refine q H0 S z held ρ σ H _ d1 t1 ok g1 fun H1 x f1 s1 r1 _ => ?_
  cases r1 with
  | @lst l xs ds f h rs =>
    have g2 : (if immAll ds = true then some (D.lst ds.reverse) else none) = some d := g2
    by_cases hi : immAll ds = true
    · rw [if_pos hi] at g2
      cases g2
      have hn := rs.imm hi
      subst hn
      refine ⟨l, xs, rfl, h, fun l' hl => ?_⟩
      have s2 : Same H1 (upd H1 l' (.lst xs.reverse)) := fun b o e => by rw [upd_ne (ne_of_none e hl)]; exact e
      refine k _ _ [l'] (s1.trans s2) (.lst upd_same ((Reps.rev0 rs).same s2)) ⟨List.nodup_cons.mpr ⟨(fun m => by cases m), List.nodup_nil⟩, fun a m => ?_⟩
      cases List.mem_singleton.mp m
      exact s1.free hl
    · rw [if_neg hi] at g2; cases g2
  | _ => cases g2
end
end L2.Ev
namespace L2
open PySem PySem.Spec PyProof.Rows
section
variable {X : Cx}
theorem vals_bl : ∀ {bs : List Bool} {us : List Value}, Vals (bs.map V.bl) us → us = bs.map Value.bool
  | [], _, r => by rw [List.map_nil] at r; cases r; rfl
  | b :: bs, _, r => by
    rw [List.map_cons] at r
    cases r with
    | cons r1 r2 => cases r1; rw [vals_bl r2]; rfl
theorem range_all (bs : List Bool) : (List.range bs.length).all (fun j => bs.getD j true) = bs.all id := by
  induction bs with
  | nil => rfl
  | cons b r ih =>
    rw [List.length_cons, List.range_succ_eq_map, List.all_cons, List.all_map, List.all_cons, ← ih]
    rfl
theorem call_allL (hc : X.calm = true) : CallR X (.builtin "all") (fun xs H Q => ∃ (p : Addr) (bs : List Bool), xs = [V.ref p] ∧ SqL X.K H p (bs.map V.bl) ∧ Q (.bl (bs.all id)) H) := by
  intro pins s σ H xs us Q I r h
  obtain ⟨p, bs, rfl, hq, q⟩ := h
  obtain ⟨u, rfl, ru⟩ := vals1 r
  cases ru
  obtain ⟨its, v1, pl, hz⟩ := I.list hq
  have ei := vals_bl v1
  subst ei
  have lp : p < s.heap.objs.size := let ⟨o, n, e, _⟩ := pl; Heap.lt_size e
  have hh : X.A.in1.handled = none := I.ok.hd hc
  refine call_all_walk (wpAny_pyIter_list pl.isList ?_)
  refine ⟨s.heap.objs.size, _, _, _, _, _, fun j => bs.getD j true, rfl, Walks.list hh s.heap.objs.size p (Nat.ne_of_lt lp) (bs.map Value.bool).toArray, ⟨⟨_, Heap.get?_push_size _ rfl, rfl, rfl⟩, pl.isList.at fun o e => Heap.get?_push_of_some _ e⟩, ?_, fun h' tk hk => ?_⟩
  · intro i v s' Q' E' hv hQ
    rw [List.getElem?_toArray, List.getElem?_map] at hv
    cases e : bs[i]? with
    | none => rw [e] at hv; cases hv
    | some b =>
      rw [e] at hv
      cases hv
      dsimp only at hQ
      rw [List.getD_eq_getElem?_getD, e] at hQ
      exact wpAny_truthy_bool hQ
  · have f := I.fpOk (H' := H) (Nat.le_refl s.heap.objs.size) (I.hok.fresh (Nat.le_refl _))
    have I1 : Inv X pins σ H { s with heap := s.heap.push { cls := .type "list_iterator", data := .fields #[.ref p, .int 0 0] } } := I.kept (t' := s.toks) fun b o e => Heap.get?_push_of_some _ e
    rw [List.size_toArray, List.length_map, range_all]
    exact ⟨.bl _, H, I1.turnL (t' := tk) (ch := [s.heap.objs.size]) (fun b m => by rw [List.mem_singleton.mp m]; exact f) fun b o m e => hk b o m e, rfl, q⟩
theorem mt_bits : MtR X "int.bit_length" (fun x xs H Q => ∃ i, x = .int i ∧ xs = [] ∧ Q (.int (Builtin.Int.intBits i)) H) := by
  intro pins s σ H x xs v us Q I rx rv h
  obtain ⟨i, rfl, rfl, q⟩ := h
  obtain ⟨t, rfl⟩ := rx
  cases rv
  exact PyProof.Rows.call_int_bit_length ⟨.int _, H, I.tok _, ⟨_, rfl⟩, q⟩
end
end L2
namespace L2.Ev
open PySem PySem.Spec PyProof.Rows
section
variable {X : Cx} {a b c : Expr} {fa fb : EF} {p pos : Pos}
def boolsD : List D → Option (List Bool)
  | [] => some []
  | .bl b :: r => (boolsD r).map (b :: ·)
  | _ => none
theorem boolsD_of {K : PySem.W.Frag} {H : Hp} : ∀ {ds : List D} {xs : List V} {fp : List Addr} {bs : List Bool}, Reps K H ds xs fp → boolsD ds = some bs → xs = bs.map V.bl
  | [], _, _, bs, r, e => by cases r; cases e; rfl
  | d :: ds, _, _, bs, r, e => by
    cases r with
    | cons h t =>
      cases d <;> try (cases e; done)
      cases h
      unfold boolsD at e
      cases q : boolsD ds with
      | none => rw [q] at e; cases e
      | some r =>
        rw [q] at e
        cases e
        rw [boolsD_of t q]; rfl
def oAll : D → Option D
  | .lst ds => (boolsD ds).map fun bs => .bl (bs.all id)
  | _ => none
theorem does_all {K : PySem.W.Frag} : Does1 K (fun xs H Q => ∃ (p : Addr) (bs : List Bool), xs = [V.ref p] ∧ SqL K H p (bs.map V.bl) ∧ Q (.bl (bs.all id)) H) oAll := by
  intro H x d1 f1 d Q r e k
  cases d1 with
  | lst ds =>
    obtain ⟨p, xs, f, rfl, hq, rs, _⟩ := r.lst_of
    have e : (boolsD ds).map (fun bs => D.bl (bs.all id)) = some d := e
    cases h : boolsD ds with
    | none => rw [h] at e; cases e
    | some bs =>
      rw [h] at e
      cases e
      have ex := boolsD_of rs h
      subst ex
      exact ⟨p, bs, rfl, hq, k H _ [] (Same.refl H) (.bl _) List.nodup_nil fun a m => nomatch m⟩
  | _ => cases e
theorem fp_all (hc : X.calm = true) (hm : X.mg "all" = none) (ha : FP X a fa) (hg : Gl X "all" := by rfl) (hs : starEach [a] X.env = [(false, eval a X.env)] := by rfl) : FP X (.Call (.Name "all" p) [a] [] pos) (e1 oAll fa) :=
  fp_1 does_all ha fun ta pa => pe_callB (call_allL hc) hg hm boot_all (pa_cons pa pa_nil hs) (he := hs) (hpl := rfl)
def oBits : D → Option D
  | .int i => some (.int (Builtin.Int.intBits i))
  | _ => none
theorem fp_bits {p2 p3 : Pos} (ha : FP X a fa) (hbase : attributeBase a "bit_length" X.env (eval a X.env) = eval a X.env := by rfl) (hline : (p2.endLine == p3.line) = true := by rfl) : FP X (.Call (.Attribute a "bit_length" p2) [] [] p3) (e1 oBits fa) := by
  obtain ⟨t, pa, q⟩ := ha
  refine ⟨_, pe_bm0 PySem.F.plainAttrs_int PySem.F.slot_int_bit_length PySem.F.type_int_bit_length mt_bits pa hbase hline, fun H0 S z held ρ σ H Q d tg ok e k => ?_⟩
  obtain ⟨d1, t1, g1, g2, rfl⟩ := e1_of e
  refine q H0 S z held ρ σ H _ d1 t1 ok g1 fun H1 x f1 s1 r1 _ => ?_
  cases r1 <;> cases g2
  exact ⟨rfl, _, rfl, rfl, k H1 _ [] s1 (.int _) .nil⟩
end
end L2.Ev
namespace L2.Ev
open PySem PySem.Spec PyProof.Rows
abbrev XF := Rho → Option (D × Rho)
abbrev XTF := Rho → Option (Bool × Rho)
abbrev XAF := Rho → Option (List D × Rho)
def Stay (z : Addr → Option Nat) (H H' : Hp) : Prop := Imm H H' ∧ ∀ a o, z a = none → H a = some o → H' a = some o
theorem Stay.of {z : Addr → Option Nat} {H H' : Hp} (s : Same H H') : Stay z H H' := ⟨.of s, fun a o _ e => s _ _ e⟩
theorem Stay.trans {z : Addr → Option Nat} {H H1 H2 : Hp} (a : Stay z H H1) (b : Stay z H1 H2) : Stay z H H2 := ⟨a.1.trans b.1, fun c o e q => b.2 c o e (a.2 c o e q)⟩
theorem Rep.stay {K : PySem.W.Frag} {z : Addr → Option Nat} {H H' : Hp} {d : D} {v : V} (r : Rep K H d v []) (s : Stay z H H') : Rep K H' d v [] := r.frame (fun a m => nomatch m) s.1
theorem Reps.stay {K : PySem.W.Frag} {z : Addr → Option Nat} {H H' : Hp} {d : List D} {v : List V} (r : Reps K H d v []) (s : Stay z H H') : Reps K H' d v [] := r.frame (fun a m => nomatch m) s.1
def FX (X : Cx) (e : Expr) (f : XF) : Prop := ∃ t, PE X e t ∧ ∀ (H0 : Hp) (S : List Addr) (z : Addr → Option Nat) (held : List Held) (ρ : Rho) (σ : St) (H : Hp) (Q : VK) (d : D) (ρ' : Rho),
  Ok X.K H0 S z held ρ σ H → f ρ = some (d, ρ') → (∀ H' v, Ok X.K H0 S z held ρ' σ H' → Stay z H H' → Rep X.K H' d v [] → Q v H') → t σ H Q
def FXT (X : Cx) (e : Expr) (f : XTF) : Prop := ∃ t, PT X e t ∧ ∀ (H0 : Hp) (S : List Addr) (z : Addr → Option Nat) (held : List Held) (ρ : Rho) (σ : St) (H : Hp) (Q : Bool → Hp → Prop) (b : Bool) (ρ' : Rho),
  Ok X.K H0 S z held ρ σ H → f ρ = some (b, ρ') → (∀ H', Ok X.K H0 S z held ρ' σ H' → Stay z H H' → Q b H') → t σ H Q
def FXW (X : Cx) (e : Expr) (f : XTF) : Prop := ∃ t, PW X e t ∧ ∀ (H0 : Hp) (S : List Addr) (z : Addr → Option Nat) (held : List Held) (ρ : Rho) (σ : St) (H : Hp) (Q : Bool → Hp → Prop) (b : Bool) (ρ' : Rho),
  Ok X.K H0 S z held ρ σ H → f ρ = some (b, ρ') → (∀ H', Ok X.K H0 S z held ρ' σ H' → Stay z H H' → Q b H') → t σ H Q
def FXA (X : Cx) (es : List Expr) (f : XAF) : Prop := ∃ t, PA X es t ∧ (∀ ρ ds ρ', f ρ = some (ds, ρ') → ds.length = es.length) ∧ ∀ (H0 : Hp) (S : List Addr) (z : Addr → Option Nat) (held : List Held) (ρ : Rho) (σ : St) (H : Hp) (Q : List V → Hp → Prop) (ds : List D) (ρ' : Rho),
  Ok X.K H0 S z held ρ σ H → f ρ = some (ds, ρ') → (∀ H' vs, Ok X.K H0 S z held ρ' σ H' → Stay z H H' → Reps X.K H' ds vs [] → Q vs H') → t σ H Q
section
variable {X : Cx} {a b c e : Expr} {es : List Expr} {f g : XF} {pos : Pos}
def xP (f : EF) : XF := fun ρ => match f ρ with
  | some (d, _) => if imm d = true then some (d, ρ) else none
  | none => none
theorem fx_fp {f : EF} (h : FP X e f) : FX X e (xP f) := by
  obtain ⟨t, p, q⟩ := h
  refine ⟨t, p, fun H0 S z held ρ σ H Q d ρ' ok e k => ?_⟩
  unfold xP at e
  cases h : f ρ with
  | none => rw [h] at e; cases e
  | some w =>
    obtain ⟨d0, t0⟩ := w
    rw [h] at e
    dsimp only at e
    by_cases hi : imm d0 = true
    · rw [if_pos hi] at e
      cases e
      refine q H0 S z held ρ σ H _ d t0 ok h fun H1 v fp s1 r1 _ => ?_
      have hn := r1.imm hi
      subst hn
      exact k H1 v (ok.same s1) (.of s1) r1
    · rw [if_neg hi] at e; cases e
def x2 (op : D → D → Option D) (f g : XF) : XF := fun ρ => match f ρ with
  | some (d1, ρ1) => match g ρ1 with
    | some (d2, ρ2) => (op d1 d2).map fun d => (d, ρ2)
    | none => none
  | none => none
theorem x2_of {op : D → D → Option D} {ρ ρ' : Rho} {d : D} (e : x2 op f g ρ = some (d, ρ')) : ∃ d1 ρ1 d2, f ρ = some (d1, ρ1) ∧ g ρ1 = some (d2, ρ') ∧ op d1 d2 = some d := by
  unfold x2 at e
  cases h1 : f ρ with
  | none => rw [h1] at e; cases e
  | some w =>
    obtain ⟨d1, ρ1⟩ := w
    rw [h1] at e
    dsimp only at e
    cases h2 : g ρ1 with
    | none => rw [h2] at e; cases e
    | some w =>
      obtain ⟨d2, ρ2⟩ := w
      rw [h2] at e
      dsimp only at e
      cases h3 : op d1 d2 with
      | none => rw [h3] at e; cases e
      | some d3 => rw [h3] at e; cases e; exact ⟨d1, ρ1, d2, rfl, h2, h3⟩
theorem fx_bin {op : Operator} {r : R2} {o : D → D → Option D} (ho : OpR X (binaryOp op) r) (dd : Does2 X.K r o) (ha : FX X a f) (hb : FX X b g) : FX X (.BinOp a op b pos) (x2 o f g) := by
  obtain ⟨ta, pa, sa⟩ := ha
  obtain ⟨tb, pb, sb⟩ := hb
  refine ⟨_, pe_op ho pa pb, fun H0 S z held ρ σ H Q d ρ' ok e k => ?_⟩
  obtain ⟨d1, ρ1, d2, e1, e2, e3⟩ := x2_of e
  refine sa H0 S z held ρ σ H _ d1 ρ1 ok e1 fun H1 x ok1 s1 r1 => ?_
  refine sb H0 S z held ρ1 σ H1 _ d2 ρ' ok1 e2 fun H2 y ok2 s2 r2 => ?_
  exact dd H2 x y d1 d2 [] [] d Q (r1.stay s2) r2 e3 fun H3 v s3 r3 => k H3 v (ok2.same s3) ((s1.trans s2).trans (.of s3)) r3
theorem fx_add (ha : FX X a f) (hb : FX X b g) : FX X (.BinOp a .Add b pos) (x2 oAdd f g) := fx_bin op_add does_i ha hb
theorem fx_sub (ha : FX X a f) (hb : FX X b g) : FX X (.BinOp a .Sub b pos) (x2 oSub f g) := fx_bin op_sub does_i ha hb
def xV (f : XF) : XTF := fun ρ => match f ρ with
  | some (.bl b, ρ') => some (b, ρ')
  | _ => none
theorem xV_of {ρ ρ' : Rho} {b : Bool} (e : xV f ρ = some (b, ρ')) : f ρ = some (.bl b, ρ') := by
  unfold xV at e
  cases h : f ρ with
  | none => rw [h] at e; cases e
  | some w =>
    obtain ⟨d, ρ1⟩ := w
    rw [h] at e
    cases d <;> first | (cases e; rfl) | cases e
theorem fxt_cmp {op : CmpOp} {r : R2} {o : D → D → Option D} (ho : OpR X (compareOp op) r) (dd : Does2 X.K r o) (ha : FX X a f) (hb : FX X b g) (hm : behindInMarks op b = false) : FXT X (.Compare a [op] [b] pos) (xV (x2 o f g)) := by
  obtain ⟨ta, pa, sa⟩ := ha
  obtain ⟨tb, pb, sb⟩ := hb
  refine ⟨_, pt_cmpR ho pa pb hm, fun H0 S z held ρ σ H Q c ρ' ok e k => ?_⟩
  obtain ⟨d1, ρ1, d2, e1, e2, e3⟩ := x2_of (xV_of e)
  refine sa H0 S z held ρ σ H _ d1 ρ1 ok e1 fun H1 x ok1 s1 r1 => ?_
  refine sb H0 S z held ρ1 σ H1 _ d2 ρ' ok1 e2 fun H2 y ok2 s2 r2 => ?_
  refine dd H2 x y d1 d2 [] [] _ _ (r1.stay s2) r2 e3 fun H3 v s3 r3 => ?_
  cases r3
  exact ⟨c, rfl, k H3 (ok2.same s3) ((s1.trans s2).trans (.of s3))⟩
theorem fxt_eq (ha : FX X a f) (hb : FX X b g) : FXT X (.Compare a [.Eq] [b] pos) (xV (x2 oEq f g)) := fxt_cmp op_eq does_eq ha hb (nomark _)
theorem fxt_gt (ha : FX X a f) (hb : FX X b g) : FXT X (.Compare a [.Gt] [b] pos) (xV (x2 oGt f g)) := fxt_cmp op_gt does_iB ha hb (nomark _)
theorem fxt_val (h : FX X e f) (he : ∀ whole, isTrue e X.env whole = (do let v ← whole; standAt e.pos; holding [v] (truthy v)) := by intro _; rfl) : FXT X e (xV f) := by
  obtain ⟨t, p, q⟩ := h
  refine ⟨_, pt_val p he, fun H0 S z held ρ σ H Q b ρ' ok e k => ?_⟩
  refine q H0 S z held ρ σ H _ _ ρ' ok (xV_of e) fun H1 v ok1 s1 r1 => ?_
  cases r1
  exact ⟨b, rfl, k H1 ok1 s1⟩
def xT (f : TF) : XTF := fun ρ => (f ρ).map fun b => (b, ρ)
theorem xT_of {f : TF} {ρ ρ' : Rho} {b : Bool} (e : xT f ρ = some (b, ρ')) : f ρ = some b ∧ ρ' = ρ := by
  unfold xT at e
  cases h : f ρ with
  | none => rw [h] at e; cases e
  | some c => rw [h] at e; cases e; exact ⟨rfl, rfl⟩
theorem fxt_ft {f : TF} (h : FT X e f) : FXT X e (xT f) := by
  obtain ⟨t, p, q⟩ := h
  refine ⟨t, p, fun H0 S z held ρ σ H Q b ρ' ok e k => ?_⟩
  obtain ⟨e, rfl⟩ := xT_of e
  exact q H0 S z held ρ' σ H _ b ok e fun H1 s1 => k H1 (ok.same s1) (.of s1)
def xNot (f : XTF) : XTF := fun ρ => (f ρ).map fun w => (!w.1, w.2)
theorem fxt_not {f : XTF} (h : FXT X a f) : FXT X (.UnaryOp .Not a pos) (xNot f) := by
  obtain ⟨t, p, q⟩ := h
  refine ⟨_, pt_not p, fun H0 S z held ρ σ H Q b ρ' ok e k => ?_⟩
  unfold xNot at e
  cases h : f ρ with
  | none => rw [h] at e; cases e
  | some w =>
    obtain ⟨y, ρ1⟩ := w
    rw [h] at e
    cases e
    exact q H0 S z held ρ σ H _ y ρ1 ok h fun H1 ok1 s1 => k H1 ok1 s1
def xAnd (f g : XTF) : XTF := fun ρ => match f ρ with
  | some (true, ρ1) => g ρ1
  | some (false, ρ1) => some (false, ρ1)
  | none => none
def xOr (f g : XTF) : XTF := fun ρ => match f ρ with
  | some (true, ρ1) => some (true, ρ1)
  | some (false, ρ1) => g ρ1
  | none => none
theorem FXW.fxt {f : XTF} (h : FXW X e f) : FXT X e f := let ⟨t, p, q⟩ := h; ⟨t, p.pt, q⟩
theorem fxw_and1 {f : XTF} (h : FXT X a f) : FXW X (.BoolOp .And [a] pos) f := let ⟨t, p, q⟩ := h; ⟨t, pw_and1 p, q⟩
theorem fxw_or1 {f : XTF} (h : FXT X a f) : FXW X (.BoolOp .Or [a] pos) f := let ⟨t, p, q⟩ := h; ⟨t, pw_or1 p, q⟩
theorem fxw_and {rest : List Expr} {f g : XTF} (ha : FXT X a f) (hb : FXW X (.BoolOp .And (b :: rest) pos) g) : FXW X (.BoolOp .And (a :: b :: rest) pos) (xAnd f g) := by
  obtain ⟨t, p, q⟩ := ha
  obtain ⟨t', p', q'⟩ := hb
  refine ⟨_, pw_and p p', fun H0 S z held ρ σ H Q c ρ' ok e k => ?_⟩
  unfold xAnd at e
  cases h : f ρ with
  | none => rw [h] at e; cases e
  | some w =>
    obtain ⟨y, ρ1⟩ := w
    rw [h] at e
    cases y with
    | false =>
      cases e
      refine q H0 S z held ρ σ H _ false _ ok h fun H1 ok1 s1 => ?_
      rw [if_neg Bool.false_ne_true]
      exact k H1 ok1 s1
    | true =>
      refine q H0 S z held ρ σ H _ true _ ok h fun H1 ok1 s1 => ?_
      rw [if_pos rfl]
      exact q' H0 S z held ρ1 σ H1 _ c ρ' ok1 e fun H2 ok2 s2 => k H2 ok2 (s1.trans s2)
theorem fxw_or {rest : List Expr} {f g : XTF} (ha : FXT X a f) (hb : FXW X (.BoolOp .Or (b :: rest) pos) g) : FXW X (.BoolOp .Or (a :: b :: rest) pos) (xOr f g) := by
  obtain ⟨t, p, q⟩ := ha
  obtain ⟨t', p', q'⟩ := hb
  refine ⟨_, pw_or p p', fun H0 S z held ρ σ H Q c ρ' ok e k => ?_⟩
  unfold xOr at e
  cases h : f ρ with
  | none => rw [h] at e; cases e
  | some w =>
    obtain ⟨y, ρ1⟩ := w
    rw [h] at e
    cases y with
    | true =>
      cases e
      refine q H0 S z held ρ σ H _ true _ ok h fun H1 ok1 s1 => ?_
      rw [if_pos rfl]
      exact k H1 ok1 s1
    | false =>
      refine q H0 S z held ρ σ H _ false _ ok h fun H1 ok1 s1 => ?_
      rw [if_neg Bool.false_ne_true]
      exact q' H0 S z held ρ1 σ H1 _ c ρ' ok1 e fun H2 ok2 s2 => k H2 ok2 (s1.trans s2)
def xaNil : XAF := fun ρ => some ([], ρ)
def xaCons (f : XF) (g : XAF) : XAF := fun ρ => match f ρ with
  | some (d, ρ1) => match g ρ1 with
    | some (ds, ρ2) => some (d :: ds, ρ2)
    | none => none
  | none => none
theorem xaCons_of {g : XAF} {ρ ρ' : Rho} {ds : List D} (e : xaCons f g ρ = some (ds, ρ')) : ∃ d ρ1 r, f ρ = some (d, ρ1) ∧ g ρ1 = some (r, ρ') ∧ ds = d :: r := by
  unfold xaCons at e
  cases h1 : f ρ with
  | none => rw [h1] at e; cases e
  | some w =>
    obtain ⟨d, ρ1⟩ := w
    rw [h1] at e
    dsimp only at e
    cases h2 : g ρ1 with
    | none => rw [h2] at e; cases e
    | some w =>
      obtain ⟨r, ρ2⟩ := w
      rw [h2] at e
      cases e
      exact ⟨d, ρ1, r, rfl, h2, rfl⟩
theorem fxa_nil : FXA X [] xaNil := ⟨_, pa_nil, fun _ _ _ e => by cases e; rfl, fun _ _ _ _ _ _ H _ _ _ ok e q => by cases e; exact q H _ ok (.of (Same.refl H)) .nil⟩
theorem fxa_cons {g : XAF} (ha : FX X e f) (hr : FXA X es g) (hs : starEach (e :: es) X.env = (false, eval e X.env) :: starEach es X.env := by rfl) : FXA X (e :: es) (xaCons f g) := by
  obtain ⟨t, p, q⟩ := ha
  obtain ⟨t', p', l', q'⟩ := hr
  refine ⟨_, pa_cons p p' hs, fun ρ ds ρ' e => by obtain ⟨d, ρ1, r, e1, e2, rfl⟩ := xaCons_of e; rw [List.length_cons, List.length_cons, l' _ _ _ e2], fun H0 S z held ρ σ H Q ds ρ' ok e k => ?_⟩
  obtain ⟨d, ρ1, r, e1, e2, rfl⟩ := xaCons_of e
  refine q H0 S z held ρ σ H _ d ρ1 ok e1 fun H1 v ok1 s1 r1 => ?_
  refine q' H0 S z held ρ1 σ H1 _ r ρ' ok1 e2 fun H2 vs ok2 s2 r2 => ?_
  exact k H2 (v :: vs) ok2 (s1.trans s2) (Reps.cons (f1 := []) (f2 := []) (r1.stay s2) r2)
def xIx (g : XAF) (f : XF) : XF := fun ρ => match g ρ with
  | some (ds, ρ1) => match f ρ1 with
    | some (.int i, ρ2) => (atI ds i).map fun d => (d, ρ2)
    | _ => none
  | none => none
theorem fx_ix {g : XAF} {p2 : Pos} (ha : FXA X es g) (hc : FX X c f) (hl : es.length ≤ 1000 := by decide) (hs : PlainIx c := by exact fun _ _ => rfl) : FX X (.Subscript (.List es p2) c pos) (xIx g f) := by
  obtain ⟨t, p, hg, q⟩ := ha
  obtain ⟨tc, pc, qc⟩ := hc
  refine ⟨_, pe_ix ix_seq (pe_lst p) pc hs, fun H0 S z held ρ σ H Q d ρ' ok e k => ?_⟩
  unfold xIx at e
  cases h1 : g ρ with
  | none => rw [h1] at e; cases e
  | some w =>
    obtain ⟨ds, ρ1⟩ := w
    rw [h1] at e
    dsimp only at e
    cases h2 : f ρ1 with
    | none => rw [h2] at e; cases e
    | some w =>
      obtain ⟨di, ρ2⟩ := w
      rw [h2] at e
      cases di <;> try (cases e; done)
      rename_i i
      dsimp only at e
      cases h3 : atI ds i with
      | none => rw [h3] at e; cases e
      | some d3 =>
        rw [h3] at e
        cases e
        refine q H0 S z held ρ σ H _ ds ρ1 ok h1 fun H1 vs ok1 s1 r1 => ⟨?_, fun l hl1 => ?_⟩
        · rw [← r1.length, hg ρ ds ρ1 h1]
          exact Nat.le_of_lt (small1000 hl)
        · have s2 : Same H1 (upd H1 l (.lst vs)) := fun b o e => by rw [upd_ne (ne_of_none e hl1)]; exact e
          have zl : z l = none := by
            cases hz : z l with
            | none => rfl
            | some j => obtain ⟨⟨o, w⟩, _⟩ := ok1.zd l j hz; rw [hl1] at w; cases w
          refine qc H0 S z held ρ1 σ _ _ _ ρ' (ok1.same s2) h2 fun H3 y ok3 s3 r3 => ?_
          have hl3 : H3 l = some (.lst vs) := s3.2 l _ zl upd_same
          cases r3
          unfold atI at h3
          cases hj : ixN ds.length i with
          | none => rw [hj] at h3; cases h3
          | some j =>
            rw [hj, Option.bind_some] at h3
            have r3 := (r1.same s2).stay s3
            obtain ⟨v, hv, rv⟩ := r3.get0 h3
            refine .inl ⟨l, vs, i, v, rfl, rfl, SqL.of hl3, ?_, k H3 v ok3 ((s1.trans (.of s2)).trans s3) rv⟩
            unfold atI
            rw [← r1.length, hj, Option.bind_some]; exact hv
def xCall (F : List D → Option D) (g : XAF) : XF := fun ρ => match g ρ with
  | some (ds, ρ1) => match F ds with
    | some d => if imm d = true then some (d, ρ1) else none
    | none => none
  | none => none
theorem fx_call {x : Str} {p : Pos} {k : Nat} {fa : Addr} {fd : FuncData} {ps : List Str} {F : List D → Option D} {g : XAF} (G : FnOk X.prog X.w X.K X.mg X.base CX0 k fa fd ps (spF X.K F)) (hr : Room k X.A) (hm : X.mg x = some (.ref fa)) (hk : PySem.W.keepIn X.K (.ref fa) = true) (hb : Binds X.K fd ps []) (ha : FXA X (e :: es) g)
    (hg : Gl X x := by rfl) (hdb : (x == ("__debug__" : Str)) = false := by decide)
    (he : starEach (e :: es) X.env = (false, eval e X.env) :: starEach es X.env := by rfl) (hpl : (backTo pos (starEach es X.env)).any (·.1) = false := by rfl) : FX X (.Call (.Name x p) (e :: es) [] pos) (xCall F g) := by
  obtain ⟨t, pa, _, sa⟩ := ha
  refine ⟨_, pe_call G hr hg hm hk hb .nil pass0 pa hdb he hpl, fun H0 S z held ρ σ H Q d ρ' ok e0 q => ?_⟩
  unfold xCall at e0
  cases h1 : g ρ with
  | none => rw [h1] at e0; cases e0
  | some w =>
    obtain ⟨ds, ρ1⟩ := w
    rw [h1] at e0
    dsimp only at e0
    cases h2 : F ds with
    | none => rw [h2] at e0; cases e0
    | some d2 =>
      rw [h2] at e0
      dsimp only at e0
      by_cases hi : imm d2 = true
      · rw [if_pos hi] at e0
        cases e0
        refine sa H0 S z held ρ σ H _ ds ρ' ok h1 fun H1 vs ok1 s1 r1 => ?_
        rw [List.append_nil]
        refine ⟨ds, [], d, r1, h2, fun H2 v fp' s2 r2 nd fr => ?_⟩
        have hn := r2.imm hi
        subst hn
        exact q H2 v (ok1.same s2) (s1.trans (.of s2)) r2
      · rw [if_neg hi] at e0; cases e0
def spM (K : PySem.W.Frag) (G : List Int → List D → Option (D × List Int)) : Sp := fun vs H Q _ => ∃ a ns ws es d ns', vs = V.ref a :: ws ∧ H a = some (.lst (ns.map V.int)) ∧ Reps K H es ws [] ∧ G ns es = some (d, ns') ∧
  ∀ H' v, (∀ b o, b ≠ a → H b = some o → H' b = some o) → H' a = some (.lst (ns'.map V.int)) → Rep K H' d v [] → Q v H'
def xM (i : Nat) (G : List Int → List D → Option (D × List Int)) (g : XAF) : XF := fun ρ => match ρ[i]?, g ρ with
  | some (some _), some (es, ρ1) => match ρ1[i]? with
    | some (some (.lst ds, .own)) => match intsD ds with
      | some ns => (G ns es).map fun w => (w.1, mutS ρ1 i (.lst (w.2.map D.int)))
      | none => none
    | _ => none
  | _, _ => none
theorem intsD_imm : ∀ {ds : List D} {ns : List Int}, intsD ds = some ns → immAll ds = true
  | [], _, _ => rfl
  | d :: r, ns, h => by
    cases d <;> try (cases h; done)
    unfold intsD at h
    cases q : intsD r with
    | none => rw [q] at h; cases h
    | some m => unfold immAll; rw [intsD_imm q]; rfl
theorem fx_callM (i : Nat) {x xn : Str} {p p1 : Pos} {k : Nat} {fa : Addr} {fd : FuncData} {ps : List Str} {G : List Int → List D → Option (D × List Int)} {g : XAF} (GG : FnOk X.prog X.w X.K X.mg X.base CX0 k fa fd ps (spM X.K G)) (hr : Room k X.A) (hm : X.mg x = some (.ref fa)) (hk : PySem.W.keepIn X.K (.ref fa) = true) (hb : Binds X.K fd ps []) (ha : FXA X es g)
    (hN : X.N[i]? = some xn := by rfl) (hvis : Vis X.env.scope xn := by first | exact Or.inl rfl | exact Or.inr (Or.inl rfl) | exact Or.inr (Or.inr rfl)) (hd : (xn == ("__debug__" : Str)) = false := by decide) (hcd : (xn == ("__classdict__" : Str)) = false := by decide)
    (hg : Gl X x := by rfl) (hdb : (x == ("__debug__" : Str)) = false := by decide) (he : starEach (.Name xn p1 :: es) X.env = (false, eval (.Name xn p1) X.env) :: starEach es X.env := by rfl) (hpl : (backTo pos (starEach es X.env)).any (·.1) = false := by rfl) :
    FX X (.Call (.Name x p) (.Name xn p1 :: es) [] pos) (xM i G g) := by
  obtain ⟨t, pa, _, sa⟩ := ha
  refine ⟨_, pe_call GG hr hg hm hk hb .nil pass0 (pa_cons (pe_var (i := i) hN hvis hd hcd) pa he) hdb he hpl, fun H0 S z held ρ σ H Q d ρ' ok e0 q => ?_⟩
  unfold xM at e0
  split at e0
  · rename_i w0 eds ρ1 h0 h1
    split at e0
    · rename_i ds h2
      cases h3 : intsD ds with
      | none => rw [h3] at e0; cases e0
      | some ns =>
        rw [h3] at e0
        dsimp only at e0
        cases h4 : G ns eds with
        | none => rw [h4] at e0; cases e0
        | some w =>
          obtain ⟨d', ns'⟩ := w
          rw [h4] at e0
          cases e0
          obtain ⟨d0, t0⟩ := w0
          obtain ⟨v, fp, hs, _, _⟩ := ok.sl i d0 t0 h0
          refine ⟨v, hs, ?_⟩
          refine sa H0 S z held ρ σ H _ eds ρ1 ok h1 fun H1 vs ok1 s1 r1 => ?_
          obtain ⟨v', fp', hs', r', zz⟩ := ok1.sl i _ _ h2
          rw [hs] at hs'
          cases hs'
          rw [List.append_nil]
          cases r' with
          | @lst l xs _ f h rs =>
            have ex := intsD_of rs h3
            subst ex
            have him : f = [] := by
              have hm : immAll ds = true := intsD_imm h3
              exact rs.imm hm
            subst him
            refine ⟨l, ns, vs, eds, _, ns', rfl, h, r1, h4, fun H' v kp hl rv => ?_⟩
            have s2 : Same (upd H1 l (.lst (ns'.map V.int))) H' := fun b o e => by
              by_cases hb : b = l
              · subst hb; rw [upd_same] at e; cases e; exact hl
              · rw [upd_ne hb] at e; exact kp b o hb e
            have ok2 := Ok.mutate ok1 h2 hs zz List.mem_cons_self h rfl (d1 := .lst (ns'.map D.int)) (o' := .lst (ns'.map V.int)) (.lst upd_same (reps_ints ns'))
            refine q H' v (ok2.same s2) (s1.trans ⟨(Imm.upd h rfl).trans (.of s2), fun b o zb e => ?_⟩) rv
            exact kp b o (fun hb => by subst hb; rw [zz.2 _ List.mem_cons_self] at zb; cases zb) e
    · cases e0
  · cases e0
def sSetX (i : Nat) (f : XF) : SF := fun ρ => match f ρ with
  | some (d, ρ') => some (.nx (setS ρ' i d .own))
  | none => none
theorem fs_setX (i : Nat) {x : Str} {pos' : Pos} (he : FX X e f) (hN : X.N.Nodup) (hi : X.N[i]? = some x := by rfl) (hx : Loc X.env.scope x := by first | exact Or.inl rfl | exact Or.inr rfl)
    (hs : swapsWith e (some (.Name x pos')) pos.line X.env = pure false := by rfl) (hf : X.fn x = true ∨ X.env.scope.names.lookup x = some .local := by first | exact .inl rfl | exact .inr rfl) : FS1 X (.Assign [.Name x pos'] e pos) (sSetX i f) := by
  obtain ⟨t, p, q⟩ := he
  refine ⟨_, ps_set (i := i) hN hi hx p hs hf, fun H0 S z held ρ σ H E o ok e k => ?_⟩
  unfold sSetX at e
  cases h : f ρ with
  | none => rw [h] at e; cases e
  | some w =>
    obtain ⟨d, ρ1⟩ := w
    rw [h] at e
    cases e
    refine q H0 S z held ρ σ H _ d ρ1 ok h fun H1 v ok1 s1 r1 => ?_
    exact ok1.stored (t := .own) (Same.refl H1) r1 .nil fun z' ok' => k z' _ H1 ok'
def sIfX (c : XTF) (f g : SF) : SF := fun ρ => match c ρ with
  | some (true, ρ1) => f ρ1
  | some (false, ρ1) => g ρ1
  | none => none
theorem fs_ifX {bs cs : List Stmt} {tc : XTF} {f g : SF} (hc : FXT X c tc) (ha : FS X bs f) (hb : FS X cs g) : FS1 X (.If c bs cs pos) (sIfX tc f g) := by
  obtain ⟨t, p, q⟩ := hc
  obtain ⟨t1, p1, q1⟩ := ha
  obtain ⟨t2, p2, q2⟩ := hb
  refine ⟨_, ps_if p p1 p2, fun H0 S z held ρ σ H E o ok e k => ?_⟩
  unfold sIfX at e
  cases h : tc ρ with
  | none => rw [h] at e; cases e
  | some w =>
    obtain ⟨y, ρ1⟩ := w
    rw [h] at e
    refine q H0 S z held ρ σ H _ y ρ1 ok h fun H1 ok1 s1 => ?_
    cases y with
    | true => rw [if_pos rfl]; exact q1 H0 S z held ρ1 σ H1 E o ok1 e k
    | false => rw [if_neg Bool.false_ne_true]; exact q2 H0 S z held ρ1 σ H1 E o ok1 e k
def takeG : List Int → List D → Option (D × List Int)
  | ns, [.int m] => if ns = [] then some (.int 0, []) else if 0 < m then some (.int (ns.getLastD 0 % m), ns.dropLast) else none
  | _, _ => none
end
end L2.Ev
namespace L2.Ev
open PySem PySem.Spec PyProof.Rows
theorem take_len {K : PySem.W.Frag} {vs : List V} {H : Hp} {Q : VK} {E : XK} (h : spM K takeG vs H Q E) : vs.length = 2 := by
  obtain ⟨a, ns, ws, es, d, ns', rfl, h1, h2, h3, _⟩ := h
  rw [List.length_cons, ← h2.length]
  cases es with
  | nil => cases h3
  | cons e es =>
    cases es with
    | nil => rfl
    | cons e' es => cases e <;> cases h3
theorem take_ok {X : Cx} {c z e : Expr} {p1 p2 p3 : Pos} {N : List Str} {vs : List V} {H : Hp} {Q : VK} {E : XK} (hN : N.length = 2) (hc : FT X c (tV (e2 oEq (e1 oLen (eVar 0)) (eC (.int 0))))) (hz : PE X z (tC (.int 0)))
    (hp : PE X e (tOp (rI (fun _ j => 0 < j) fun i j => .int (i % j)) (tBM0 X.K "list" rPop (tVar 0)) (tVar 1))) (h : spM X.K takeG vs H Q E) :
    ∃ t, PSs X [.If c [.Return (some z) p1] [] p2, .Return (some e) p3] t ∧ t { nx := fun _ H' => Q .non H', rt := Q } (start N vs) H := by
  have hl := take_len h
  obtain ⟨a, ns, ws, es, d, ns', rfl, h1, h2, h3, q⟩ := h
  obtain ⟨tt, pt, qt⟩ := hc
  refine ⟨_, pss_cons (ps_if pt (pss_one (ps_ret hz)) pss_nil) (pss_one (ps_ret hp)), ?_⟩
  generalize hf : ([] : List Addr) = fp at h2
  cases h2 with
  | nil => cases h3
  | @cons d0 v0 ds0 vs0 f1 f2 r1 r2 =>
    obtain ⟨z1, z2⟩ := List.append_eq_nil_iff.mp hf.symm
    subst z1 z2
    have hv : vs0 = [] := List.eq_nil_of_length_eq_zero (by simpa using hl)
    subst hv
    cases r2
    cases r1 <;> try (cases h3; done)
    rename_i m
    have st : start N [V.ref a, V.int m] = [some (.ref a), some (.int m)] := by unfold start; rw [hN]; rfl
    rw [st]
    have ok : Ok X.K H [] (fun _ => none) [] [some (.lst (ns.map D.int), .sh []), some (.int m, .sh [])] [some (.ref a), some (.int m)] H := by
      refine ⟨fun i d t e => ?_, (fun p m => nomatch m), (fun a j e => nomatch e), (fun a o e _ => e), rfl⟩
      match i, e with
      | 0, e => cases e; exact ⟨_, _, rfl, .lst h1 (reps_ints ns), fun b _ j e => nomatch e⟩
      | 1, e => cases e; exact ⟨_, _, rfl, .int m, fun b m => nomatch m⟩
    by_cases hn : ns = []
    · subst hn
      have h3 : some (D.int 0, ([] : List Int)) = some (d, ns') := h3
      cases h3
      refine qt H [] (fun _ => none) [] _ _ H _ true ok rfl fun H1 s1 => ?_
      rw [if_pos rfl]
      exact q H1 _ (fun b o _ e => s1 _ _ e) (s1 _ _ h1) (.int 0)
    · have h3 : (if ns = [] then some (D.int 0, ([] : List Int)) else if 0 < m then some (D.int (ns.getLastD 0 % m), ns.dropLast) else none) = some (d, ns') := h3
      rw [if_neg hn] at h3
      by_cases hm : 0 < m
      · rw [if_pos hm] at h3
        cases h3
        have hb : tV (e2 oEq (e1 oLen (eVar 0)) (eC (.int 0))) [some (.lst (ns.map D.int), .sh []), some (.int m, .sh [])] = some false := by
          show some ((((ns.map D.int).length : Int)) == 0) = some false
          have : ((ns.map D.int).length : Int) ≠ 0 := by
            rw [List.length_map]
            intro z
            exact hn (List.eq_nil_of_length_eq_zero (by omega))
          rw [beq_eq_false_iff_ne.mpr this]
        refine qt H [] (fun _ => none) [] _ _ H _ false ok hb fun H1 s1 => ?_
        rw [if_neg Bool.false_ne_true]
        have g1 := s1 _ _ h1
        have hlen : 0 < ns.length := List.length_pos_iff.mpr hn
        have hy : (ns.map V.int)[(ns.map V.int).length - 1]? = some (.int (ns.getLastD 0)) := by
          rw [List.length_map, List.getElem?_map, List.getElem?_eq_getElem (by omega), List.getLastD_eq_getLast?, List.getLast?_eq_getElem?, List.getElem?_eq_getElem (by omega)]
          rfl
        refine ⟨.ref a, rfl, .inl ⟨rfl, _, SqL.of g1⟩, a, _, _, rfl, rfl, g1, hy, .int m, rfl, ns.getLastD 0, m, rfl, rfl, hm, ?_⟩
        refine q _ _ (fun b o hb e => by rw [upd_ne hb]; exact s1 _ _ e) ?_ (.int _)
        rw [upd_same, List.map_dropLast]
      · rw [if_neg hm] at h3; cases h3
theorem fn_none {P : Program} {w : World} {K : PySem.W.Frag} {mg : Str → Option Value} {base : Heap} {x qual : Str} {st : Stmt} {f : Addr} {fd : FuncData} {N ps : List Str} {k : Nat} (F : Fun K x qual st f fd) (S : FnScope N ps (defScope st)) :
    FnOk P w K mg base CX0 (k + 1) f fd ps (spF K fun _ => none) := F.ok S (fun vs H Q E ⟨_, _, _, _, e, _⟩ => nomatch e) fun cdv A outer s H vs Q E hr ⟨_, _, _, _, e, _⟩ => nomatch e
end L2.Ev
namespace L2.Ev
open PySem PySem.Spec PyProof.Rows
section
variable {X : Cx} {a b : Expr} {fa fb : EF} {pos : Pos}
theorem fp_lt (ha : FP X a fa) (hb : FP X b fb) : FP X (.Compare a [.Lt] [b] pos) (e2 oLt fa fb) := fp_cmp op_lt does_iB ha hb (nomark _)
theorem fp_le (ha : FP X a fa) (hb : FP X b fb) : FP X (.Compare a [.LtE] [b] pos) (e2 oLe fa fb) := fp_cmp op_le does_iB ha hb (nomark _)
theorem fp_gt (ha : FP X a fa) (hb : FP X b fb) : FP X (.Compare a [.Gt] [b] pos) (e2 oGt fa fb) := fp_cmp op_gt does_iB ha hb (nomark _)
theorem fp_ge (ha : FP X a fa) (hb : FP X b fb) : FP X (.Compare a [.GtE] [b] pos) (e2 oGe fa fb) := fp_cmp op_ge does_iB ha hb (nomark _)
theorem fp_isN (ha : FP X a fa) (hb : FP X b fb) : FP X (.Compare a [.Is] [b] pos) (e2 oIsN fa fb) := fp_cmp op_isN does_isN ha hb (nomark _)
end
end L2.Ev
namespace L2.Ev
open PySem
def good (s : Slot) : Prop := ∀ i, dropT i s = s
theorem good_none : good none := fun _ => rfl
theorem good_own (d : D) : good (some (d, .own)) := fun _ => rfl
theorem good_lk (d : D) : good (some (d, .lk)) := fun _ => rfl
theorem good_sh (d : D) : good (some (d, .sh [])) := fun _ => rfl
theorem take_at (ls : List Int) {m : Int} (hm : 0 < m) : ∃ v ls', 0 ≤ v ∧ v < m ∧ takeG ls [.int m] = some (.int v, ls') := by
  by_cases h : ls = []
  · subst h
    exact ⟨0, [], Int.le_refl _, hm, rfl⟩
  · refine ⟨ls.getLastD 0 % m, ls.dropLast, Int.emod_nonneg _ (by omega), Int.emod_lt_of_pos _ hm, ?_⟩
    show (if ls = [] then _ else if 0 < m then _ else none) = _
    rw [if_neg h, if_pos hm]
theorem xm_at {i : Nat} {g : XAF} {ρ ρ1 : Rho} {w : D × Tag} {ls ls' : List Int} {es : List D} {d : D} {G : List Int → List D → Option (D × List Int)} (h0 : ρ[i]? = some (some w)) (hg : g ρ = some (es, ρ1)) (h1 : ρ1[i]? = some (some (.lst (ls.map D.int), .own))) (h : G ls es = some (d, ls')) :
    xM i G g ρ = some (d, mutS ρ1 i (.lst (ls'.map D.int))) := by
  unfold xM
  rw [h0, hg]
  dsimp only
  rw [h1]
  dsimp only
  rw [intsD_map]
  dsimp only
  rw [h]; rfl
theorem s_xP {f : EF} {ρ : Rho} {d : D} {t : Tag} (h : f ρ = some (d, t)) (hi : imm d = true) : xP f ρ = some (d, ρ) := by unfold xP; rw [h]; dsimp only; rw [if_pos hi]
theorem s_x2 {op : D → D → Option D} {f g : XF} {ρ ρ1 ρ2 : Rho} {d1 d2 d : D} (h1 : f ρ = some (d1, ρ1)) (h2 : g ρ1 = some (d2, ρ2)) (h : op d1 d2 = some d) : x2 op f g ρ = some (d, ρ2) := by unfold x2; rw [h1]; dsimp only; rw [h2]; dsimp only; rw [h]; rfl
theorem s_xa0 {ρ : Rho} : xaNil ρ = some ([], ρ) := rfl
theorem s_xa {f : XF} {g : XAF} {ρ ρ1 ρ2 : Rho} {d : D} {ds : List D} (h1 : f ρ = some (d, ρ1)) (h2 : g ρ1 = some (ds, ρ2)) : xaCons f g ρ = some (d :: ds, ρ2) := by unfold xaCons; rw [h1]; dsimp only; rw [h2]
theorem s_xIx {g : XAF} {f : XF} {ρ ρ1 ρ2 : Rho} {ds : List D} {i : Int} {d : D} (h1 : g ρ = some (ds, ρ1)) (h2 : f ρ1 = some (.int i, ρ2)) (h : atI ds i = some d) : xIx g f ρ = some (d, ρ2) := by unfold xIx; rw [h1]; dsimp only; rw [h2]; dsimp only; rw [h]; rfl
theorem s_setX {i : Nat} {f : XF} {ρ ρ1 : Rho} {d : D} (h : f ρ = some (d, ρ1)) : sSetX i f ρ = some (.nx (ρ1.set i (some (d, .own)))) := by unfold sSetX; rw [h]; rfl
theorem s_ifXT {c : XTF} {f g : SF} {ρ ρ1 : Rho} (h : c ρ = some (true, ρ1)) : sIfX c f g ρ = f ρ1 := by unfold sIfX; rw [h]
theorem s_ifXF {c : XTF} {f g : SF} {ρ ρ1 : Rho} (h : c ρ = some (false, ρ1)) : sIfX c f g ρ = g ρ1 := by unfold sIfX; rw [h]
theorem s_xV {f : XF} {ρ ρ1 : Rho} {b : Bool} (h : f ρ = some (.bl b, ρ1)) : xV f ρ = some (b, ρ1) := by unfold xV; rw [h]
theorem atI_int {ns : List Int} {i : Int} (h0 : 0 ≤ i) (h1 : i < ns.length) : ∃ n, n ∈ ns ∧ atI (ns.map D.int) i = some (.int n) := by
  have h2 : i.toNat < ns.length := by omega
  refine ⟨ns[i.toNat], List.getElem_mem h2, ?_⟩
  rw [atI_ints h0 h1, List.getD_eq_getElem?_getD, List.getElem?_eq_getElem h2]; rfl
theorem imm_ints : ∀ ns : List Int, immAll (ns.map D.int) = true
  | [] => rfl
  | n :: r => by rw [List.map_cons]; unfold immAll; rw [imm_ints r]; rfl
theorem s_catI {as bs : List Int} (h : as.length + bs.length ≤ PySem.sizeLine) : oCat (.lst (as.map D.int)) (.lst (bs.map D.int)) = some (.lst ((as ++ bs).map D.int)) := by
  show (if (immAll (as.map D.int) && immAll (bs.map D.int) && decide ((as.map D.int).length + (bs.map D.int).length ≤ PySem.sizeLine)) = true then some (D.lst (as.map D.int ++ bs.map D.int)) else none) = _
  rw [imm_ints, imm_ints, List.length_map, List.length_map, decide_eq_true h, List.map_append]; rfl
theorem s_sortedI {ns : List Int} (h : ns.length < 64) : oSorted (.lst (ns.map D.int)) = some (.lst ((srt ns).map D.int)) := by
  show (match intsD (ns.map D.int) with | some ns => if ns.length < 64 then some (D.lst ((srt ns).map D.int)) else none | none => none) = _
  rw [intsD_map]; dsimp only; rw [if_pos h]
theorem s_listI {ns : List Int} : oList (.lst (ns.map D.int)) = some (.lst (ns.map D.int)) := by show (if immAll (ns.map D.int) = true then some (D.lst (ns.map D.int)) else none) = _; rw [if_pos (imm_ints ns)]
theorem s_listIT {ns : List Int} : oList (.tup (ns.map D.int)) = some (.lst (ns.map D.int)) := by show (if immAll (ns.map D.int) = true then some (D.lst (ns.map D.int)) else none) = _; rw [if_pos (imm_ints ns)]
theorem s_tupI {ns : List Int} : oTuple (.lst (ns.map D.int)) = some (.tup (ns.map D.int)) := by show (if immAll (ns.map D.int) = true then some (D.tup (ns.map D.int)) else none) = _; rw [if_pos (imm_ints ns)]
theorem s_clrI {i : Nat} {ρ : Rho} {ns : List Int} (h : ρ[i]? = some (some (.lst (ns.map D.int), .own))) : sClr i ρ = some (.nx (mutS ρ i (.lst []))) := by unfold sClr; rw [h]; dsimp only; rw [if_pos (imm_ints ns)]
theorem cut200 {ns : List Int} (h : ns.length ≤ 63) : oCut none (some 200) (dI ns) = some (.lst (ns.map D.int)) := by
  show (if immAll (ns.map D.int) = true then some (D.lst (cutD (ns.map D.int) none (some 200))) else none) = _
  rw [if_pos (imm_ints ns)]
  have : cutD (ns.map D.int) none (some 200) = ns.map D.int := by
    unfold cutD
    have e : HT.sIx (ns.map D.int).length (ns.map D.int).length (some 200) = (ns.map D.int).length := by
      have q := HT.sIx_nat (ns.map D.int).length (ns.map D.int).length 200
      rw [show ((200 : Nat) : Int) = 200 from rfl] at q
      rw [q, List.length_map]; omega
    rw [HT.sIx_none, e, List.drop_zero, Nat.sub_zero, List.take_length]
  rw [this]
theorem s_rev {ns : List Int} : oRev (.lst (ns.map D.int)) = some (.lst (ns.reverse.map D.int)) := by
  show (if immAll (ns.map D.int) = true then some (D.lst (ns.map D.int).reverse) else none) = _
  rw [if_pos (imm_ints ns), List.map_reverse]
theorem while_nx {c : TF} {b : SF} (P : Rho → Prop) (Q : Rho → Prop) (μ : Rho → Nat) : ∀ {n : Nat} {ρ : Rho}, P ρ → μ ρ < n → (∀ ρ, P ρ → (c ρ = some false ∧ Q ρ) ∨ (c ρ = some true ∧ ∃ ρ', b ρ = some (.nx ρ') ∧ P ρ' ∧ μ ρ' < μ ρ)) → ∃ ρ', sWhile c b n ρ = some (.nx ρ') ∧ Q ρ'
  | 0, ρ, _, h, _ => absurd h (Nat.not_lt_zero _)
  | n + 1, ρ, hp, hm, hs => by
    rw [sWhile]
    rcases hs ρ hp with ⟨h1, h2⟩ | ⟨h1, ρ', h2, h3, h4⟩
    · exact ⟨ρ, by rw [h1], h2⟩
    · rw [h1]
      dsimp only
      rw [h2]
      exact while_nx P Q μ h3 (by omega) hs
end L2.Ev
namespace L2
open PySem PySem.Spec PyProof.Rows
section
variable {X : Cx}
theorem call_maxL (hc : X.calm = true) : CallR X (.builtin "max") (fun xs H Q => ∃ (p : Addr) (ns : List Int), xs = [V.ref p] ∧ SqL X.K H p (ns.map V.int) ∧ ns ≠ [] ∧ ∀ m, m ∈ ns → (∀ n ∈ ns, n ≤ m) → Q (.int m) H) := by
  intro pins s σ H xs us Q I r h
  obtain ⟨p, ns, rfl, hq, hne, q⟩ := h
  obtain ⟨u, rfl, ru⟩ := vals1 r
  cases ru
  obtain ⟨its, v1, pl, hz⟩ := I.list hq
  have hi := intsAre_of v1
  have hlen : its.length = ns.length := hi.length
  have lp : p < s.heap.objs.size := let ⟨o, n, e, _⟩ := pl; Heap.lt_size e
  have hh : X.A.in1.handled = none := I.ok.hd hc
  have hv : ∀ (i : Nat) (v : Value), its.toArray[i]? = some v → ∃ t, v = Value.int (ns.getD i 0) t := fun i v e => ints_at hi (by simpa using e)
  have hpos : 0 < ns.length := List.length_pos_iff.mpr hne
  refine call_max_walk (wpAny_pyIter_list pl.isList ?_)
  refine ⟨s.heap.objs.size, _, _, _, _, _, fun i j => decide (ns.getD i 0 > ns.getD j 0), rfl, Walks.list hh s.heap.objs.size p (Nat.ne_of_lt lp) its.toArray, ⟨⟨_, Heap.get?_push_size _ rfl, rfl, rfl⟩, pl.isList.at fun o e => Heap.get?_push_of_some _ e⟩, fun b m => ?_, by rw [List.size_toArray]; omega, CmpOf.ints_gt (fun i => ns.getD i 0) hv, fun v h' tk pv hk => ?_⟩
  · have hsz : (s.heap.push { cls := .type "list_iterator", data := .fields #[.ref p, .int 0 0] }).objs.size = s.heap.objs.size + 1 := Heap.size_push ..
    show b < (s.heap.push { cls := .type "list_iterator", data := .fields #[.ref p, .int 0 0] }).objs.size
    rw [hsz]
    rcases List.mem_cons.mp m with z | z
    · rw [z]; exact Nat.lt_succ_self _
    · rw [List.mem_singleton.mp z]; exact Nat.lt_succ_of_lt lp
  · obtain ⟨t, e⟩ := hv _ v pv
    subst e
    obtain ⟨a1, a2⟩ := argBest_gt (fun i => ns.getD i 0) (its.toArray.size - 1)
    have f := I.fpOk (H' := H) (Nat.le_refl s.heap.objs.size) (I.hok.fresh (Nat.le_refl _))
    have I1 : Inv X pins σ H { s with heap := s.heap.push { cls := .type "list_iterator", data := .fields #[.ref p, .int 0 0] } } := I.kept (t' := s.toks) fun b o e => Heap.get?_push_of_some _ e
    rw [List.size_toArray, hlen] at a1 a2
    refine ⟨.int _, H, I1.turnL (t' := tk) (ch := [s.heap.objs.size]) (fun b m => by rw [List.mem_singleton.mp m]; exact f) fun b o m e => hk b o m e, ⟨t, rfl⟩, ?_⟩
    rw [List.size_toArray, hlen]
    refine q _ (mem_getD' (by omega)) fun x hx => ?_
    obtain ⟨j, hj, rfl⟩ := List.getElem_of_mem hx
    have := a2 j (by omega)
    rw [show ns[j] = ns.getD j 0 by rw [List.getD_eq_getElem?_getD, List.getElem?_eq_getElem hj]; rfl]
    exact this
end
end L2
namespace L2.Ev
open PySem PySem.Spec PyProof.Rows
def maxI : List Int → Int
  | [] => 0
  | [a] => a
  | a :: b :: r => if maxI (b :: r) < a then a else maxI (b :: r)
theorem maxI_spec : ∀ {l : List Int}, l ≠ [] → maxI l ∈ l ∧ ∀ x ∈ l, x ≤ maxI l
  | [], h => absurd rfl h
  | [a], _ => ⟨List.mem_singleton.mpr rfl, fun x m => by rw [List.mem_singleton.mp m]; exact Int.le_refl _⟩
  | a :: b :: r, _ => by
    obtain ⟨h1, h2⟩ := maxI_spec (l := b :: r) (by simp)
    unfold maxI
    by_cases h : maxI (b :: r) < a
    · rw [if_pos h]
      refine ⟨List.mem_cons_self, fun x m => ?_⟩
      rcases List.mem_cons.mp m with rfl | m
      · exact Int.le_refl _
      · have := h2 x m; omega
    · rw [if_neg h]
      refine ⟨List.mem_cons_of_mem _ h1, fun x m => ?_⟩
      rcases List.mem_cons.mp m with rfl | m
      · omega
      · exact h2 x m
section
variable {X : Cx} {a b : Expr} {fa fb : EF} {p pos : Pos}
def oMaxL : D → Option D
  | .lst ds => match intsD ds with
    | some (n :: r) => some (.int (maxI (n :: r)))
    | _ => none
  | _ => none
theorem does_maxL {K : PySem.W.Frag} : Does1 K (fun xs H Q => ∃ (p : Addr) (ns : List Int), xs = [V.ref p] ∧ SqL K H p (ns.map V.int) ∧ ns ≠ [] ∧ ∀ m, m ∈ ns → (∀ n ∈ ns, n ≤ m) → Q (.int m) H) oMaxL := by
  intro H x d1 f1 d Q r e k
  cases d1 with
  | lst ds =>
    obtain ⟨p, xs, f, rfl, hq, rs, _⟩ := r.lst_of
    have e : (match intsD ds with | some (n :: r) => some (D.int (maxI (n :: r))) | _ => none) = some d := e
    cases h : intsD ds with
    | none => rw [h] at e; cases e
    | some ns =>
      rw [h] at e
      have ex := intsD_of rs h
      subst ex
      cases ns with
      | nil => cases e
      | cons n r =>
        cases e
        refine ⟨p, n :: r, rfl, hq, by simp, fun m h1 h2 => ?_⟩
        obtain ⟨q1, q2⟩ := maxI_spec (l := n :: r) (by simp)
        have em : m = maxI (n :: r) := Int.le_antisymm (q2 m h1) (h2 _ q1)
        rw [em]
        exact k H _ [] (Same.refl H) (.int _) List.nodup_nil fun a m => nomatch m
  | _ => cases e
theorem fp_maxL (hc : X.calm = true) (hm : X.mg "max" = none) (ha : FP X a fa) (hg : Gl X "max" := by rfl) (hs : starEach [a] X.env = [(false, eval a X.env)] := by rfl) : FP X (.Call (.Name "max" p) [a] [] pos) (e1 oMaxL fa) :=
  fp_1 does_maxL ha fun ta pa => pe_callB (call_maxL hc) hg hm boot_max (pa_cons pa pa_nil hs) (he := hs) (hpl := rfl)
def oMax2 : D → D → Option D
  | .int i, .int j => some (.int (if j > i then j else i))
  | _, _ => none
theorem fp_max2 (hc : X.calm = true) (hm : X.mg "max" = none) (ha : FP X a fa) (hb : FP X b fb) (hg : Gl X "max" := by rfl) (hs : starEach [a, b] X.env = [(false, eval a X.env), (false, eval b X.env)] := by rfl) (hs2 : starEach [b] X.env = [(false, eval b X.env)] := by rfl) (hpl : (backTo pos (starEach [b] X.env)).any (·.1) = false := by rfl) :
    FP X (.Call (.Name "max" p) [a, b] [] pos) (e2 oMax2 fa fb) := by
  obtain ⟨ta, pa, sa⟩ := ha
  obtain ⟨tb, pb, sb⟩ := hb
  refine ⟨_, pe_callB (call_max2 hc) hg hm boot_max (pa_cons pa (pa_cons pb pa_nil hs2) (by rw [hs, hs2])) (he := by rw [hs, hs2]) (hpl := hpl), fun H0 S z held ρ σ H Q d tg ok e k => ?_⟩
  obtain ⟨d1, t1, d2, t2, g1, g2, g3, rfl⟩ := e2_of e
  refine sa H0 S z held ρ σ H _ d1 t1 ok g1 fun H1 x f1 s1 r1 _ => ?_
  refine sb H0 S z held ρ σ H1 _ d2 t2 (ok.same s1) g2 fun H2 y f2 s2 r2 _ => ?_
  cases r1 <;> cases r2 <;> cases g3
  exact ⟨_, _, rfl, k H2 _ [] (s1.trans s2) (.int _) .nil⟩
def oNeg : D → Option D
  | .int i => some (.int (-i))
  | _ => none
theorem fp_neg (ha : FP X a fa) : FP X (.UnaryOp .USub a pos) (e1 oNeg fa) := by
  obtain ⟨t, pa, q⟩ := ha
  refine ⟨_, pe_un un_neg pa, fun H0 S z held ρ σ H Q d tg ok e k => ?_⟩
  obtain ⟨d1, t1, g1, g2, rfl⟩ := e1_of e
  refine q H0 S z held ρ σ H _ d1 t1 ok g1 fun H1 x f1 s1 r1 _ => ?_
  cases r1 <;> cases g2
  exact ⟨_, rfl, k H1 _ [] s1 (.int _) .nil⟩
end
end L2.Ev
namespace K36
open PySem L2 L2.Ev
def top (i : Nat) : Stmt := PySem.Challenge.pw_linegate_k36_places_kept_and_open.main.body.getD i (.Pass ⟨0, 0, 0, 0⟩)
abbrev s_middle_of_gap : Stmt := top 2
theorem sc_middle_of_gap : FnScope ["fence", "low", "high", "below", "above"] ["fence"] (defScope s_middle_of_gap) := ⟨rfl, rfl, rfl, by decide +kernel, rfl, by decide +kernel, by decide +kernel⟩
def B_middle_of_gap : SF := (sSeq (sSet 1 (e2 oIx (eVar 0) (eC (.int 0)))) (sSeq (sSet 2 (eVar 1)) (sSeq (sFor (iZipF (eVar 0) (e1 (oCut (some 1) none) (eVar 0))) (gT (gsCons (gN 3) (gsCons (gN 4) gsNil))) (sIf (tV (e2 oGt (e2 oSub (eVar 4) (eVar 3)) (e2 oSub (eVar 2) (eVar 1)))) (sSeq (sSet 1 (eVar 3)) (sSet 2 (eVar 4))) sNx)) (sRet (e2 oDiv (e2 oAdd (eVar 1) (eVar 2)) (eC (.int 2)))))))
def F_middle_of_gap : List D → Option D := runF 1 5 B_middle_of_gap
theorem ok_middle_of_gap {P : Program} {w : World} {K : PySem.W.Frag} {mg : Str → Option Value} {base : Heap} {f : Addr} {fd : FuncData} (g_zip : mg "zip" = none) (F : Fun K "middle_of_gap" "middle_of_gap" s_middle_of_gap f fd) : FnOk P w K mg base CX0 1 f fd ["fence"] (spF K F_middle_of_gap) := by
  have sc := sc_middle_of_gap
  refine fn_F F sc_middle_of_gap fun cdv A outer s H E hr => ?_
  have hu := hu_of hr
  exact (fs_cons (fs_set 1 (fp_ix (fp_var 0) fp_int) sc.nd) (fs_cons (fs_set 2 (fp_var 1) sc.nd) (fs_cons (fs_for rfl (fi_zip g_zip (fp_var 0) (fp_cut pc_int pc_none (fp_var 0))) (fg_tup rfl (fgs_cons (fg_name 3 sc.nd) (fgs_cons (fg_name 4 sc.nd) fgs_nil))) (fs_one (fs_if (ft_gt (fp_sub (fp_var 4) (fp_var 3)) (fp_sub (fp_var 2) (fp_var 1))) (fs_cons (fs_set 1 (fp_var 3) sc.nd) (fs_one (fs_set 2 (fp_var 4) sc.nd))) fs_nil))) (fs_one (fs_ret (fp_div (fp_add (fp_var 1) (fp_var 2)) fp_int))))))
abbrev s_wanted_places : Stmt := top 1
theorem sc_wanted_places : FnScope ["size", "bad", "kept", "hands", "end", "wanted"] ["size", "bad", "kept", "hands"] (defScope s_wanted_places) := ⟨rfl, rfl, rfl, by decide +kernel, rfl, by decide +kernel, by decide +kernel⟩
def B_wanted_places : SF := (sSeq (sSet 4 (eIf (tV (e2 oIsN (eVar 1) (eC .non))) (e2 oAdd (eVar 0) (eC (.int 1))) (eVar 1))) (sSeq (sSet 5 (eComp [none, some 4] (iSeqF (eVar 2)) (gN 0) (tV (e2 oLt (eVar 0) (eVar 1))) (eVar 0))) (sSeq (sWhile (tV (e2 oLt (e1 oLen (eVar 5)) (e2 oMin2 (eVar 3) (e2 oSub (eVar 4) (eC (.int 1)))))) (sSeq (sIf (tAnd2 (tV (e2 oIsN (eVar 1) (eC .non))) (tV (e2 (oIn true) (eVar 0) (eVar 5)))) (sApp 5 (eVar 0)) (sApp 5 (eCall F_middle_of_gap (aCons (e2 oCat (e2 oCat (eLst (aCons (eC (.int 0)) aNil)) (eVar 5)) (eLst (aCons (eVar 4) aNil))) aNil)))) (sSet 5 (e1 oSorted (eVar 5)))) 1000) (sRetV 5))))
def F_wanted_places : List D → Option D := runF 4 6 B_wanted_places
theorem ok_wanted_places {P : Program} {w : World} {K : PySem.W.Frag} {mg : Str → Option Value} {base : Heap} {f : Addr} {fd : FuncData} (g_len : mg "len" = none) (g_min : mg "min" = none) (g_sorted : mg "sorted" = none) {a_middle_of_gap : Addr} {fd_middle_of_gap : FuncData} (G_middle_of_gap : FnOk P w K mg base CX0 1 a_middle_of_gap fd_middle_of_gap ["fence"] (spF K F_middle_of_gap)) (m_middle_of_gap : mg "middle_of_gap" = some (.ref a_middle_of_gap)) (k_middle_of_gap : PySem.W.keepIn K (.ref a_middle_of_gap) = true) (b_middle_of_gap : Binds K fd_middle_of_gap ["fence"] []) (F : Fun K "wanted_places" "wanted_places" s_wanted_places f fd) : FnOk P w K mg base CX0 2 f fd ["size", "bad", "kept", "hands"] (spF K F_wanted_places) := by
  have sc := sc_wanted_places
  refine fn_F F sc_wanted_places fun cdv A outer s H E hr => ?_
  have hu := hu_of hr
  exact (fs_cons (fs_set 4 (fp_ifExp (ft_isN (fp_var 1) fp_non) (fp_add (fp_var 0) fp_int) (fp_var 1)) sc.nd) (fs_cons (fs_setC 5 (hN := sc.nd) (M := ["place", "end"]) (js := [none, some 4]) (is := [0]) (compScope_mk (N := ["size", "bad", "kept", "hands", "end", "wanted"]) (osc := defScope s_wanted_places) rfl rfl rfl (by decide +kernel)) rfl (fi_seq (fp_var 2)) (by decide) fun s3 H3 fp => ⟨(fg_name 0 (show (["place", "end"] : List Str).Nodup by decide +kernel)), (fts_one (ft_lt (fp_var 0) (fp_var 1))), (fp_var 0)⟩) (fs_cons (fs_while 1000 (ft_lt (fp_len g_len (fp_var 5)) (fp_min2 rfl g_min (fp_var 3) (fp_sub (fp_var 4) fp_int))) (fs_cons (fs_if (FW.ft (fw_and (ft_isN (fp_var 1) fp_non) (fw_and1 (ft_notIn (fp_var 0) (fp_var 5))))) (fs_one (fs_app 5 (fp_var 0))) (fs_one (fs_app 5 (fp_call G_middle_of_gap (hr.mono (by decide)) m_middle_of_gap k_middle_of_gap b_middle_of_gap (fa_cons (fp_cat (fp_cat (fp_lst (fa_cons fp_int fa_nil)) (fp_var 5)) (fp_lst (fa_cons (fp_var 4) fa_nil))) fa_nil))))) (fs_one (fs_set 5 (fp_sorted rfl g_sorted (fp_var 5)) sc.nd)))) (fs_one (fs_retV 5)))))
abbrev s_L_take : Stmt := top 4
theorem sc_L_take : FnScope ["_law_left", "_law_many"] ["_law_left", "_law_many"] (defScope s_L_take) := ⟨rfl, rfl, rfl, by decide +kernel, rfl, by decide +kernel, by decide +kernel⟩
theorem ok_L_take {P : Program} {w : World} {K : PySem.W.Frag} {mg : Str → Option Value} {base : Heap} {f : Addr} {fd : FuncData} (g_len : mg "len" = none) (F : Fun K "_law_take" "_law_take" s_L_take f fd) : FnOk P w K mg base CX0 1 f fd ["_law_left", "_law_many"] (spM K takeG) := by
  have sc := sc_L_take
  refine F.ok sc_L_take (fun vs H Q E h => take_len h) fun cdv A outer s H vs Q E hr h => ?_
  exact take_ok (N := ["_law_left", "_law_many"]) rfl (ft_eq (fp_len g_len (fp_var 0)) fp_int) pe_int (pe_op op_mod (pe_bm0 PySem.F.plainAttrs_list PySem.F.slot_list_pop PySem.F.type_list_pop mt_pop (pe_var (i := 0) rfl (Or.inl rfl))) (pe_var (i := 1) rfl (Or.inl rfl))) h
abbrev s_L_mix : Stmt := top 5
theorem sc_L_mix : FnScope ["_law_cell", "_law_turn", "_law_many", "_law_mixed"] ["_law_cell", "_law_turn", "_law_many"] (defScope s_L_mix) := ⟨rfl, rfl, rfl, by decide +kernel, rfl, by decide +kernel, by decide +kernel⟩
def B_L_mix : SF := (sSeq (sSet 3 (e2 oMul (e2 oAdd (e2 oMod (eVar 0) (eC (.int 2147483629))) (eC (.int 11))) (e2 oAdd (eC (.int 982451653)) (e2 oMul (e2 oMul (eC (.int 57885161)) (eVar 1)) (eVar 1))))) (sRet (e2 oMod (e2 oMod (eVar 3) (eC (.int 2147483629))) (eVar 2))))
def F_L_mix : List D → Option D := runF 3 4 B_L_mix
theorem ok_L_mix {P : Program} {w : World} {K : PySem.W.Frag} {mg : Str → Option Value} {base : Heap} {f : Addr} {fd : FuncData} (F : Fun K "_law_mix" "_law_mix" s_L_mix f fd) : FnOk P w K mg base CX0 1 f fd ["_law_cell", "_law_turn", "_law_many"] (spF K F_L_mix) := by
  have sc := sc_L_mix
  refine fn_F F sc_L_mix fun cdv A outer s H E hr => ?_
  have hu := hu_of hr
  exact (fs_cons (fs_set 3 (fp_mul (fp_add (fp_mod (fp_var 0) fp_int) fp_int) (fp_add fp_int (fp_mul (fp_mul fp_int (fp_var 1)) (fp_var 1)))) sc.nd) (fs_one (fs_ret (fp_mod (fp_mod (fp_var 3) fp_int) (fp_var 2)))))
abbrev s_L_whole : Stmt := top 6
theorem sc_L_whole : FnScope ["_law_found"] ["_law_found"] (defScope s_L_whole) := ⟨rfl, rfl, rfl, by decide +kernel, rfl, by decide +kernel, by decide +kernel⟩
def B_L_whole : SF := (sRet (eAnd (e1 (oIsi "int") (eVar 0)) (e1 oNot (e1 (oIsi "bool") (eVar 0)))))
def F_L_whole : List D → Option D := runF 1 1 B_L_whole
theorem ok_L_whole {P : Program} {w : World} {K : PySem.W.Frag} {mg : Str → Option Value} {base : Heap} {f : Addr} {fd : FuncData} (g_bool : mg "bool" = none) (g_int : mg "int" = none) (g_isinstance : mg "isinstance" = none) (F : Fun K "_law_whole" "_law_whole" s_L_whole f fd) : FnOk P w K mg base CX0 1 f fd ["_law_found"] (spF K F_L_whole) := by
  have sc := sc_L_whole
  refine fn_F F sc_L_whole fun cdv A outer s H E hr => ?_
  have hu := hu_of hr
  exact (fs_one (fs_ret (fp_and (fp_isi isi_int g_isinstance g_int (fp_var 0)) (fp_one (fp_not (fp_isi isi_bool g_isinstance g_bool (fp_var 0)))))))
abbrev s_L_rises : Stmt := top 7
theorem sc_L_rises : FnScope ["_law_found", "_law_end", "_law_last", "_law_place"] ["_law_found", "_law_end"] (defScope s_L_rises) := ⟨rfl, rfl, rfl, by decide +kernel, rfl, by decide +kernel, by decide +kernel⟩
def B_L_rises : SF := (sSeq (sSet 2 (eC (.int 0))) (sSeq (sFor (iSeqF (eVar 0)) (gN 3) (sSeq (sIf (tOr2 (tNot1 (tV (eCall F_L_whole (aCons (eVar 3) aNil)))) (tOr2 (tV (e2 oLe (eVar 3) (eVar 2))) (tV (e2 oGe (eVar 3) (eVar 1))))) (sRet (eC (.bl false))) sNx) (sSet 2 (eVar 3)))) (sRet (eC (.bl true)))))
def F_L_rises : List D → Option D := runF 2 4 B_L_rises
theorem ok_L_rises {P : Program} {w : World} {K : PySem.W.Frag} {mg : Str → Option Value} {base : Heap} {f : Addr} {fd : FuncData} {a_L_whole : Addr} {fd_L_whole : FuncData} (G_L_whole : FnOk P w K mg base CX0 1 a_L_whole fd_L_whole ["_law_found"] (spF K F_L_whole)) (m_L_whole : mg "_law_whole" = some (.ref a_L_whole)) (k_L_whole : PySem.W.keepIn K (.ref a_L_whole) = true) (b_L_whole : Binds K fd_L_whole ["_law_found"] []) (F : Fun K "_law_rises" "_law_rises" s_L_rises f fd) : FnOk P w K mg base CX0 2 f fd ["_law_found", "_law_end"] (spF K F_L_rises) := by
  have sc := sc_L_rises
  refine fn_F F sc_L_rises fun cdv A outer s H E hr => ?_
  have hu := hu_of hr
  exact (fs_cons (fs_set 2 fp_int sc.nd) (fs_cons (fs_for rfl (fi_seq (fp_var 0)) (fg_name 3 sc.nd) (fs_cons (fs_if (FW.ft (fw_or (ft_not (ft_val (fp_call G_L_whole (hr.mono (by decide)) m_L_whole k_L_whole b_L_whole (fa_cons (fp_var 3) fa_nil)))) (fw_or (ft_le (fp_var 3) (fp_var 2)) (fw_or1 (ft_ge (fp_var 3) (fp_var 1)))))) (fs_one (fs_ret fp_bl)) fs_nil) (fs_one (fs_set 2 (fp_var 3) sc.nd)))) (fs_one (fs_ret fp_bl))))
abbrev s_L_widest : Stmt := top 8
theorem sc_L_widest : FnScope ["_law_places", "_law_end", "_law_some"] ["_law_places", "_law_end"] (defScope s_L_widest) := ⟨rfl, rfl, rfl, by decide +kernel, rfl, by decide +kernel, by decide +kernel⟩
def B_L_widest : SF := (sSeq (sSet 2 (e2 oCat (e2 oCat (eLst (aCons (eC (.int 0)) aNil)) (eVar 0)) (eLst (aCons (eVar 1) aNil)))) (sRet (e1 oMaxL (eComp [none, some 2] (iR1 (e2 oSub (e1 oLen (eVar 2)) (eC (.int 1)))) (gN 0) tTrue (e2 oSub (e2 oIx (eVar 1) (e2 oAdd (eVar 0) (eC (.int 1)))) (e2 oIx (eVar 1) (eVar 0)))))))
def F_L_widest : List D → Option D := runF 2 3 B_L_widest
theorem ok_L_widest {P : Program} {w : World} {K : PySem.W.Frag} {mg : Str → Option Value} {base : Heap} {f : Addr} {fd : FuncData} (g_len : mg "len" = none) (g_max : mg "max" = none) (g_range : mg "range" = none) (F : Fun K "_law_widest" "_law_widest" s_L_widest f fd) : FnOk P w K mg base CX0 1 f fd ["_law_places", "_law_end"] (spF K F_L_widest) := by
  have sc := sc_L_widest
  refine fn_F F sc_L_widest fun cdv A outer s H E hr => ?_
  have hu := hu_of hr
  exact (fs_cons (fs_set 2 (fp_cat (fp_cat (fp_lst (fa_cons fp_int fa_nil)) (fp_var 0)) (fp_lst (fa_cons (fp_var 1) fa_nil))) sc.nd) (fs_one (fs_ret (fp_maxL rfl g_max (fp_comp (M := ["_law_k", "_law_some"]) (js := [none, some 2]) (is := [0]) (compScope_mk (N := ["_law_places", "_law_end", "_law_some"]) (osc := defScope s_L_widest) rfl rfl rfl (by decide +kernel)) rfl (fi_range1 g_range (fp_sub (fp_len g_len (fp_var 2)) fp_int)) (by decide) fun s3 H3 fp => ⟨(fg_name 0 (show (["_law_k", "_law_some"] : List Str).Nodup by decide +kernel)), fts_nil, (fp_sub (fp_ix (fp_var 1) (fp_add (fp_var 0) fp_int)) (fp_ix (fp_var 1) (fp_var 0)))⟩)))))
abbrev s_L_fewer : Stmt := top 9
theorem sc_L_fewer : FnScope ["_law_size", "_law_bad", "_law_kept", "_law_hands", "_law_found", "_law_end", "_law_some", "_law_new", "_law_near", "_law_far"] ["_law_size", "_law_bad", "_law_kept", "_law_hands", "_law_found", "_law_end"] (defScope s_L_fewer) := ⟨rfl, rfl, rfl, by decide +kernel, rfl, by decide +kernel, by decide +kernel⟩
def B_L_fewer : SF := (sSeq (sSet 6 (eCall F_wanted_places (aCons (eVar 0) (aCons (eVar 1) (aCons (e1 oList (eVar 2)) (aCons (e2 oSub (eVar 3) (eC (.int 1))) aNil)))))) (sSeq (sIf (tV (e2 oEq (e1 oLen (eVar 6)) (e1 oLen (eVar 4)))) (sRet (e2 oEqP (eVar 6) (eVar 4))) sNx) (sSeq (sSet 7 (eComp [none, some 6] (iSeqF (eVar 4)) (gN 0) (tV (e2 (oIn true) (eVar 0) (eVar 1))) (eVar 0))) (sSeq (sIf (tOr2 (tV (e2 oNe (e1 oLen (eVar 7)) (eC (.int 1)))) (tOr2 (tV (e2 oNe (e1 oLen (eVar 6)) (e2 oSub (e1 oLen (eVar 4)) (eC (.int 1))))) (tNot1 (tV (eCall F_L_rises (aCons (eVar 6) (aCons (eVar 5) aNil))))))) (sRet (eC (.bl false))) sNx) (sSeq (sIf (tAnd2 (tV (e2 oIsN (eVar 1) (eC .non))) (tV (e2 oEq (e2 oIx (eVar 7) (eC (.int 0))) (eVar 0)))) (sRet (eC (.bl true))) sNx) (sSeq (sSet 8 (e2 oCat (eLst (aCons (eC (.int 0)) aNil)) (eComp [none, some 7] (iSeqF (eVar 6)) (gN 0) (tV (e2 oLt (eVar 0) (e2 oIx (eVar 1) (eC (.int 0))))) (eVar 0)))) (sSeq (sSet 9 (e2 oCat (eComp [none, some 7] (iSeqF (eVar 6)) (gN 0) (tV (e2 oGt (eVar 0) (e2 oIx (eVar 1) (eC (.int 0))))) (eVar 0)) (eLst (aCons (eVar 5) aNil)))) (sRet (e2 oEq (e2 oSub (e2 oIx (eVar 9) (eC (.int 0))) (e2 oIx (eVar 8) (e1 oNeg (eC (.int 1))))) (eCall F_L_widest (aCons (eVar 6) (aCons (eVar 5) aNil))))))))))))
def F_L_fewer : List D → Option D := runF 6 10 B_L_fewer
theorem ok_L_fewer {P : Program} {w : World} {K : PySem.W.Frag} {mg : Str → Option Value} {base : Heap} {f : Addr} {fd : FuncData} (g_len : mg "len" = none) (g_list : mg "list" = none) {a_wanted_places : Addr} {fd_wanted_places : FuncData} (G_wanted_places : FnOk P w K mg base CX0 2 a_wanted_places fd_wanted_places ["size", "bad", "kept", "hands"] (spF K F_wanted_places)) (m_wanted_places : mg "wanted_places" = some (.ref a_wanted_places)) (k_wanted_places : PySem.W.keepIn K (.ref a_wanted_places) = true) (b_wanted_places : Binds K fd_wanted_places ["size", "bad", "kept", "hands"] []) {a_L_rises : Addr} {fd_L_rises : FuncData} (G_L_rises : FnOk P w K mg base CX0 2 a_L_rises fd_L_rises ["_law_found", "_law_end"] (spF K F_L_rises)) (m_L_rises : mg "_law_rises" = some (.ref a_L_rises)) (k_L_rises : PySem.W.keepIn K (.ref a_L_rises) = true) (b_L_rises : Binds K fd_L_rises ["_law_found", "_law_end"] []) {a_L_widest : Addr} {fd_L_widest : FuncData} (G_L_widest : FnOk P w K mg base CX0 1 a_L_widest fd_L_widest ["_law_places", "_law_end"] (spF K F_L_widest)) (m_L_widest : mg "_law_widest" = some (.ref a_L_widest)) (k_L_widest : PySem.W.keepIn K (.ref a_L_widest) = true) (b_L_widest : Binds K fd_L_widest ["_law_places", "_law_end"] []) (F : Fun K "_law_fewer" "_law_fewer" s_L_fewer f fd) : FnOk P w K mg base CX0 3 f fd ["_law_size", "_law_bad", "_law_kept", "_law_hands", "_law_found", "_law_end"] (spF K F_L_fewer) := by
  have sc := sc_L_fewer
  refine fn_F F sc_L_fewer fun cdv A outer s H E hr => ?_
  have hu := hu_of hr
  exact (fs_cons (fs_set 6 (fp_call G_wanted_places (hr.mono (by decide)) m_wanted_places k_wanted_places b_wanted_places (fa_cons (fp_var 0) (fa_cons (fp_var 1) (fa_cons (fp_list g_list (fp_var 2)) (fa_cons (fp_sub (fp_var 3) fp_int) fa_nil))))) sc.nd) (fs_cons (fs_if (ft_eq (fp_len g_len (fp_var 6)) (fp_len g_len (fp_var 4))) (fs_one (fs_ret (fp_eqP hr.units (fp_var 6) (fp_var 4)))) fs_nil) (fs_cons (fs_set 7 (fp_comp (M := ["_law_place", "_law_some"]) (js := [none, some 6]) (is := [0]) (compScope_mk (N := ["_law_size", "_law_bad", "_law_kept", "_law_hands", "_law_found", "_law_end", "_law_some", "_law_new", "_law_near", "_law_far"]) (osc := defScope s_L_fewer) rfl rfl rfl (by decide +kernel)) rfl (fi_seq (fp_var 4)) (by decide) fun s3 H3 fp => ⟨(fg_name 0 (show (["_law_place", "_law_some"] : List Str).Nodup by decide +kernel)), (fts_one (ft_notIn (fp_var 0) (fp_var 1))), (fp_var 0)⟩) sc.nd) (fs_cons (fs_if (FW.ft (fw_or (ft_ne (fp_len g_len (fp_var 7)) fp_int) (fw_or (ft_ne (fp_len g_len (fp_var 6)) (fp_sub (fp_len g_len (fp_var 4)) fp_int)) (fw_or1 (ft_not (ft_val (fp_call G_L_rises (hr.mono (by decide)) m_L_rises k_L_rises b_L_rises (fa_cons (fp_var 6) (fa_cons (fp_var 5) fa_nil))))))))) (fs_one (fs_ret fp_bl)) fs_nil) (fs_cons (fs_if (FW.ft (fw_and (ft_isN (fp_var 1) fp_non) (fw_and1 (ft_eq (fp_ix (fp_var 7) fp_int) (fp_var 0))))) (fs_one (fs_ret fp_bl)) fs_nil) (fs_cons (fs_set 8 (fp_cat (fp_lst (fa_cons fp_int fa_nil)) (fp_comp (M := ["_law_place", "_law_new"]) (js := [none, some 7]) (is := [0]) (compScope_mk (N := ["_law_size", "_law_bad", "_law_kept", "_law_hands", "_law_found", "_law_end", "_law_some", "_law_new", "_law_near", "_law_far"]) (osc := defScope s_L_fewer) rfl rfl rfl (by decide +kernel)) rfl (fi_seq (fp_var 6)) (by decide) fun s3 H3 fp => ⟨(fg_name 0 (show (["_law_place", "_law_new"] : List Str).Nodup by decide +kernel)), (fts_one (ft_lt (fp_var 0) (fp_ix (fp_var 1) fp_int))), (fp_var 0)⟩)) sc.nd) (fs_cons (fs_set 9 (fp_cat (fp_comp (M := ["_law_place", "_law_new"]) (js := [none, some 7]) (is := [0]) (compScope_mk (N := ["_law_size", "_law_bad", "_law_kept", "_law_hands", "_law_found", "_law_end", "_law_some", "_law_new", "_law_near", "_law_far"]) (osc := defScope s_L_fewer) rfl rfl rfl (by decide +kernel)) rfl (fi_seq (fp_var 6)) (by decide) fun s3 H3 fp => ⟨(fg_name 0 (show (["_law_place", "_law_new"] : List Str).Nodup by decide +kernel)), (fts_one (ft_gt (fp_var 0) (fp_ix (fp_var 1) fp_int))), (fp_var 0)⟩) (fp_lst (fa_cons (fp_var 5) fa_nil))) sc.nd) (fs_one (fs_ret (fp_eq (fp_sub (fp_ix (fp_var 9) fp_int) (fp_ix (fp_var 8) (fp_neg fp_int))) (fp_call G_L_widest (hr.mono (by decide)) m_L_widest k_L_widest b_L_widest (fa_cons (fp_var 6) (fa_cons (fp_var 5) fa_nil)))))))))))))
abbrev s_law : Stmt := top 10
theorem sc_law : FnScope ["_law_script", "_law_left", "_law_size", "_law_bad", "_law_share", "_law_cell", "_law_kept", "_law_hands", "_law_end", "_law_held", "_law_found"] ["_law_script"] (defScope s_law) := ⟨rfl, rfl, rfl, by decide +kernel, rfl, by decide +kernel, by decide +kernel⟩
def B_law : SF := (sSeq (sSet 1 (e1 oRev (e1 (oCut none (some 200)) (eVar 0)))) (sSeq (sSetX 2 (xM 1 takeG (xaCons (xP (eC (.int 61))) xaNil))) (sSeq (sSet 3 (eC .non)) (sSeq (sIfX (xAnd (xT (tV (e2 oGt (eVar 2) (eC (.int 0))))) (xV (x2 oEq (xM 1 takeG (xaCons (xP (eC (.int 2))) xaNil)) (xP (eC (.int 1)))))) (sSetX 3 (x2 oAdd (xP (eC (.int 1))) (xM 1 takeG (xaCons (xP (eVar 2)) xaNil)))) sNx) (sSeq (sSetX 4 (x2 oAdd (xP (eC (.int 1))) (xM 1 takeG (xaCons (xP (eC (.int 8))) xaNil)))) (sSeq (sSetX 5 (xM 1 takeG (xaCons (xP (e2 oPow (eC (.int 10)) (eC (.int 12)))) xaNil))) (sSeq (sSet 6 (eComp [none, some 5, some 4] (iR2 (eC (.int 1)) (e2 oAdd (eVar 2) (eC (.int 1)))) (gN 0) (tV (e2 oEq (eCall F_L_mix (aCons (eVar 1) (aCons (eVar 0) (aCons (eVar 2) aNil)))) (eC (.int 0)))) (eVar 0))) (sSeq (sSetX 7 (x2 oAdd (xP (eC (.int 1))) (xM 1 takeG (xaCons (xIx (xaCons (xP (eC (.int 60))) (xaCons (xP (eC (.int 8))) (xaCons (xP (eC (.int 8))) xaNil))) (xM 1 takeG (xaCons (xP (eC (.int 3))) xaNil))) xaNil)))) (sSeq (sSet 8 (eIf (tV (e2 oIsN (eVar 3) (eC .non))) (e2 oAdd (eVar 2) (eC (.int 1))) (eVar 3))) (sSeq (sSet 9 (eComp [none, some 8] (iSeqF (eVar 6)) (gN 0) (tV (e2 oLt (eVar 0) (eVar 1))) (eVar 0))) (sSeq (sSet 10 (eCall F_wanted_places (aCons (eVar 2) (aCons (eVar 3) (aCons (e1 oList (eVar 6)) (aCons (eVar 7) aNil)))))) (sSeq (sIf (tOr2 (tNot1 (tV (e1 (oIsi "list") (eVar 10)))) (tNot1 (tV (eCall F_L_rises (aCons (eVar 10) (aCons (eVar 8) aNil)))))) (sRet (eC (.bl false))) sNx) (sSeq (sIf (tV (e2 oNeP (eComp [none, some 10] (iSeqF (eVar 9)) (gN 0) (tV (e2 (oIn true) (eVar 0) (eVar 1))) (eVar 0)) (eLst aNil))) (sRet (eC (.bl false))) sNx) (sSeq (sIf (tV (e2 oNe (e1 oLen (eVar 10)) (e2 oMax2 (e1 oLen (eVar 9)) (e2 oMin2 (eVar 7) (e2 oSub (eVar 8) (eC (.int 1))))))) (sRet (eC (.bl false))) sNx) (sSeq (sIf (tAnd2 (tV (e2 oIsN (eVar 3) (eC .non))) (tAnd2 (tV (e2 oGt (eVar 2) (eC (.int 0)))) (tAnd2 (tV (e2 oLt (e1 oLen (eVar 9)) (eVar 7))) (tV (e2 (oIn true) (eVar 2) (eVar 10)))))) (sRet (eC (.bl false))) sNx) (sRet (eOr (e2 oEq (eVar 7) (eC (.int 1))) (eCall F_L_fewer (aCons (eVar 2) (aCons (eVar 3) (aCons (eVar 6) (aCons (eVar 7) (aCons (eVar 10) (aCons (eVar 8) aNil))))))))))))))))))))))))
def F_law : List D → Option D := runF 1 11 B_law
theorem ok_law {P : Program} {w : World} {K : PySem.W.Frag} {mg : Str → Option Value} {base : Heap} {f : Addr} {fd : FuncData} (g_isinstance : mg "isinstance" = none) (g_len : mg "len" = none) (g_list : mg "list" = none) (g_max : mg "max" = none) (g_min : mg "min" = none) (g_range : mg "range" = none) (g_reversed : mg "reversed" = none) {a_L_take : Addr} {fd_L_take : FuncData} (G_L_take : FnOk P w K mg base CX0 1 a_L_take fd_L_take ["_law_left", "_law_many"] (spM K takeG)) (m_L_take : mg "_law_take" = some (.ref a_L_take)) (k_L_take : PySem.W.keepIn K (.ref a_L_take) = true) (b_L_take : Binds K fd_L_take ["_law_left", "_law_many"] []) {a_L_mix : Addr} {fd_L_mix : FuncData} (G_L_mix : FnOk P w K mg base CX0 1 a_L_mix fd_L_mix ["_law_cell", "_law_turn", "_law_many"] (spF K F_L_mix)) (m_L_mix : mg "_law_mix" = some (.ref a_L_mix)) (k_L_mix : PySem.W.keepIn K (.ref a_L_mix) = true) (b_L_mix : Binds K fd_L_mix ["_law_cell", "_law_turn", "_law_many"] []) {a_wanted_places : Addr} {fd_wanted_places : FuncData} (G_wanted_places : FnOk P w K mg base CX0 2 a_wanted_places fd_wanted_places ["size", "bad", "kept", "hands"] (spF K F_wanted_places)) (m_wanted_places : mg "wanted_places" = some (.ref a_wanted_places)) (k_wanted_places : PySem.W.keepIn K (.ref a_wanted_places) = true) (b_wanted_places : Binds K fd_wanted_places ["size", "bad", "kept", "hands"] []) {a_L_rises : Addr} {fd_L_rises : FuncData} (G_L_rises : FnOk P w K mg base CX0 2 a_L_rises fd_L_rises ["_law_found", "_law_end"] (spF K F_L_rises)) (m_L_rises : mg "_law_rises" = some (.ref a_L_rises)) (k_L_rises : PySem.W.keepIn K (.ref a_L_rises) = true) (b_L_rises : Binds K fd_L_rises ["_law_found", "_law_end"] []) {a_L_fewer : Addr} {fd_L_fewer : FuncData} (G_L_fewer : FnOk P w K mg base CX0 3 a_L_fewer fd_L_fewer ["_law_size", "_law_bad", "_law_kept", "_law_hands", "_law_found", "_law_end"] (spF K F_L_fewer)) (m_L_fewer : mg "_law_fewer" = some (.ref a_L_fewer)) (k_L_fewer : PySem.W.keepIn K (.ref a_L_fewer) = true) (b_L_fewer : Binds K fd_L_fewer ["_law_size", "_law_bad", "_law_kept", "_law_hands", "_law_found", "_law_end"] []) (F : Fun K "law" "law" s_law f fd) : FnOk P w K mg base CX0 4 f fd ["_law_script"] (spF K F_law) := by
  have sc := sc_law
  refine fn_F F sc_law fun cdv A outer s H E hr => ?_
  have hu := hu_of hr
  exact (fs_cons (fs_set 1 (fp_rev rfl g_list g_reversed (fp_cut pc_none pc_int (fp_var 0))) sc.nd) (fs_cons (fs_setX 2 (fx_callM 1 G_L_take (hr.mono (by decide)) m_L_take k_L_take b_L_take (fxa_cons (fx_fp fp_int) fxa_nil)) sc.nd) (fs_cons (fs_set 3 fp_non sc.nd) (fs_cons (fs_ifX (FXW.fxt (fxw_and (fxt_ft (ft_gt (fp_var 2) fp_int)) (fxw_and1 (fxt_eq (fx_callM 1 G_L_take (hr.mono (by decide)) m_L_take k_L_take b_L_take (fxa_cons (fx_fp fp_int) fxa_nil)) (fx_fp fp_int))))) (fs_one (fs_setX 3 (fx_add (fx_fp fp_int) (fx_callM 1 G_L_take (hr.mono (by decide)) m_L_take k_L_take b_L_take (fxa_cons (fx_fp (fp_var 2)) fxa_nil))) sc.nd)) fs_nil) (fs_cons (fs_setX 4 (fx_add (fx_fp fp_int) (fx_callM 1 G_L_take (hr.mono (by decide)) m_L_take k_L_take b_L_take (fxa_cons (fx_fp fp_int) fxa_nil))) sc.nd) (fs_cons (fs_setX 5 (fx_callM 1 G_L_take (hr.mono (by decide)) m_L_take k_L_take b_L_take (fxa_cons (fx_fp (fp_pow fp_int fp_int)) fxa_nil)) sc.nd) (fs_cons (fs_setC 6 (hN := sc.nd) (M := ["_law_place", "_law_cell", "_law_share"]) (js := [none, some 5, some 4]) (is := [0]) (compScope_mk (N := ["_law_script", "_law_left", "_law_size", "_law_bad", "_law_share", "_law_cell", "_law_kept", "_law_hands", "_law_end", "_law_held", "_law_found"]) (osc := defScope s_law) rfl rfl rfl (by decide +kernel)) rfl (fi_range2 g_range fp_int (fp_add (fp_var 2) fp_int)) (by decide) fun s3 H3 fp => ⟨(fg_name 0 (show (["_law_place", "_law_cell", "_law_share"] : List Str).Nodup by decide +kernel)), (fts_one (ft_eq (fp_call G_L_mix (hr.mono (by decide)) m_L_mix k_L_mix b_L_mix (fa_cons (fp_var 1) (fa_cons (fp_var 0) (fa_cons (fp_var 2) fa_nil)))) fp_int)), (fp_var 0)⟩) (fs_cons (fs_setX 7 (fx_add (fx_fp fp_int) (fx_callM 1 G_L_take (hr.mono (by decide)) m_L_take k_L_take b_L_take (fxa_cons (fx_ix (fxa_cons (fx_fp fp_int) (fxa_cons (fx_fp fp_int) (fxa_cons (fx_fp fp_int) fxa_nil))) (fx_callM 1 G_L_take (hr.mono (by decide)) m_L_take k_L_take b_L_take (fxa_cons (fx_fp fp_int) fxa_nil))) fxa_nil))) sc.nd) (fs_cons (fs_set 8 (fp_ifExp (ft_isN (fp_var 3) fp_non) (fp_add (fp_var 2) fp_int) (fp_var 3)) sc.nd) (fs_cons (fs_setC 9 (hN := sc.nd) (M := ["_law_place", "_law_end"]) (js := [none, some 8]) (is := [0]) (compScope_mk (N := ["_law_script", "_law_left", "_law_size", "_law_bad", "_law_share", "_law_cell", "_law_kept", "_law_hands", "_law_end", "_law_held", "_law_found"]) (osc := defScope s_law) rfl rfl rfl (by decide +kernel)) rfl (fi_seq (fp_var 6)) (by decide) fun s3 H3 fp => ⟨(fg_name 0 (show (["_law_place", "_law_end"] : List Str).Nodup by decide +kernel)), (fts_one (ft_lt (fp_var 0) (fp_var 1))), (fp_var 0)⟩) (fs_cons (fs_set 10 (fp_call G_wanted_places (hr.mono (by decide)) m_wanted_places k_wanted_places b_wanted_places (fa_cons (fp_var 2) (fa_cons (fp_var 3) (fa_cons (fp_list g_list (fp_var 6)) (fa_cons (fp_var 7) fa_nil))))) sc.nd) (fs_cons (fs_if (FW.ft (fw_or (ft_not (ft_val (fp_isi isi_list g_isinstance g_list (fp_var 10)))) (fw_or1 (ft_not (ft_val (fp_call G_L_rises (hr.mono (by decide)) m_L_rises k_L_rises b_L_rises (fa_cons (fp_var 10) (fa_cons (fp_var 8) fa_nil)))))))) (fs_one (fs_ret fp_bl)) fs_nil) (fs_cons (fs_if (ft_neP hr.units (fp_comp (M := ["_law_place", "_law_found"]) (js := [none, some 10]) (is := [0]) (compScope_mk (N := ["_law_script", "_law_left", "_law_size", "_law_bad", "_law_share", "_law_cell", "_law_kept", "_law_hands", "_law_end", "_law_held", "_law_found"]) (osc := defScope s_law) rfl rfl rfl (by decide +kernel)) rfl (fi_seq (fp_var 9)) (by decide) fun s3 H3 fp => ⟨(fg_name 0 (show (["_law_place", "_law_found"] : List Str).Nodup by decide +kernel)), (fts_one (ft_notIn (fp_var 0) (fp_var 1))), (fp_var 0)⟩) (fp_lst fa_nil)) (fs_one (fs_ret fp_bl)) fs_nil) (fs_cons (fs_if (ft_ne (fp_len g_len (fp_var 10)) (fp_max2 rfl g_max (fp_len g_len (fp_var 9)) (fp_min2 rfl g_min (fp_var 7) (fp_sub (fp_var 8) fp_int)))) (fs_one (fs_ret fp_bl)) fs_nil) (fs_cons (fs_if (FW.ft (fw_and (ft_isN (fp_var 3) fp_non) (fw_and (ft_gt (fp_var 2) fp_int) (fw_and (ft_lt (fp_len g_len (fp_var 9)) (fp_var 7)) (fw_and1 (ft_notIn (fp_var 2) (fp_var 10))))))) (fs_one (fs_ret fp_bl)) fs_nil) (fs_one (fs_ret (fp_or (fp_eq (fp_var 7) fp_int) (fp_one (fp_call G_L_fewer (hr.mono (by decide)) m_L_fewer k_L_fewer b_L_fewer (fa_cons (fp_var 2) (fa_cons (fp_var 3) (fa_cons (fp_var 6) (fa_cons (fp_var 7) (fa_cons (fp_var 10) (fa_cons (fp_var 8) fa_nil))))))))))))))))))))))))))
end K36
namespace K36
open PySem L2 L2.Ev
def best : Int × Int → List (Int × Int) → Int × Int
  | p, [] => p
  | p, q :: r => best (if p.2 - p.1 < q.2 - q.1 then q else p) r
def pairs (f : List Int) : List (Int × Int) := f.zip f.tail
def mid (f : List Int) : Int := let p := best (f.headD 0, f.headD 0) (pairs f); (p.1 + p.2) / 2
theorem best_mem : ∀ (l : List (Int × Int)) (p : Int × Int), best p l = p ∨ best p l ∈ l
  | [], p => .inl rfl
  | q :: r, p => by
    unfold best
    by_cases h : p.2 - p.1 < q.2 - q.1
    · rw [if_pos h]
      rcases best_mem r q with e | e
      · rw [e]; exact .inr List.mem_cons_self
      · exact .inr (List.mem_cons_of_mem _ e)
    · rw [if_neg h]
      rcases best_mem r p with e | e
      · exact .inl e
      · exact .inr (List.mem_cons_of_mem _ e)
theorem best_ge : ∀ (l : List (Int × Int)) (p : Int × Int), p.2 - p.1 ≤ (best p l).2 - (best p l).1 ∧ ∀ q ∈ l, q.2 - q.1 ≤ (best p l).2 - (best p l).1
  | [], p => ⟨Int.le_refl _, fun q m => nomatch m⟩
  | x :: r, p => by
    unfold best
    by_cases h : p.2 - p.1 < x.2 - x.1
    · rw [if_pos h]
      obtain ⟨h1, h2⟩ := best_ge r x
      refine ⟨by omega, fun q m => ?_⟩
      rcases List.mem_cons.mp m with rfl | m
      · exact h1
      · exact h2 q m
    · rw [if_neg h]
      obtain ⟨h1, h2⟩ := best_ge r p
      refine ⟨h1, fun q m => ?_⟩
      rcases List.mem_cons.mp m with rfl | m
      · omega
      · exact h2 q m
theorem wide_gap : ∀ (r : List Int) (a : Int), (∀ q ∈ pairs (a :: r), q.2 - q.1 ≤ 1) → (a :: r).getLastD 0 ≤ a + r.length
  | [], a, _ => by simp
  | b :: r, a, h => by
    have h1 : b - a ≤ 1 := h (a, b) (by unfold pairs; exact List.mem_cons_self)
    have h2 := wide_gap r b fun q m => h q (by unfold pairs at m ⊢; exact List.mem_cons_of_mem _ m)
    have e : (a :: b :: r).getLastD 0 = (b :: r).getLastD 0 := by simp [List.getLastD]
    rw [e, List.length_cons]
    omega
abbrev fence (ws : List Int) (e : Int) : List Int := 0 :: (ws ++ [e])
theorem fence_pos {ws : List Int} {e : Int} (hw : ∀ x ∈ ws, 1 ≤ x) (he : 1 ≤ e) : ∃ b r, pairs (fence ws e) = (0, b) :: r ∧ 1 ≤ b := by
  cases ws with
  | nil => exact ⟨e, [], rfl, he⟩
  | cons x r => exact ⟨x, _, rfl, hw x List.mem_cons_self⟩
theorem pairs_mem {f : List Int} {q : Int × Int} (m : q ∈ pairs f) : q.1 ∈ f ∧ q.2 ∈ f := by
  unfold pairs at m
  obtain ⟨h1, h2⟩ := List.of_mem_zip m
  exact ⟨h1, List.mem_of_mem_tail h2⟩
theorem mid_pos {ws : List Int} {e : Int} (hw : ∀ x ∈ ws, 1 ≤ x) (hl : (ws.length : Int) < e - 1) : 1 ≤ mid (fence ws e) := by
  have hf : ∀ x ∈ fence ws e, 0 ≤ x := fun x m => by
    rcases List.mem_cons.mp m with rfl | m
    · exact Int.le_refl _
    · rcases List.mem_append.mp m with m | m
      · have := hw x m; omega
      · cases List.mem_singleton.mp m; omega
  obtain ⟨q, m, hq⟩ : ∃ q ∈ pairs (fence ws e), 2 ≤ q.2 - q.1 := by
    refine Classical.byContradiction fun hn => ?_
    have := wide_gap (ws ++ [e]) 0 fun q m => by
      refine Classical.byContradiction fun h => hn ⟨q, m, by omega⟩
    have q1 : (0 :: (ws ++ [e])).getLastD 0 = e := by rw [show (0 :: (ws ++ [e])) = (0 :: ws) ++ [e] from rfl, List.getLastD_concat]
    rw [q1, List.length_append, List.length_singleton] at this
    omega
  have hb := (best_ge (pairs (fence ws e)) ((fence ws e).headD 0, (fence ws e).headD 0)).2 q m
  unfold mid
  dsimp only
  rcases best_mem (pairs (fence ws e)) ((fence ws e).headD 0, (fence ws e).headD 0) with h | h
  · rw [h] at hb
    dsimp only at hb
    omega
  · obtain ⟨h1, h2⟩ := pairs_mem h
    have := hf _ h1
    omega
def dP2 (p : Int × Int) : D := .tup [.int p.1, .int p.2]
def rM (f : List Int) (l h : Int) (t1 t2 : Tag) (s3 s4 : Slot) : Rho := [some (.lst (f.map D.int), .sh []), some (.int l, t1), some (.int h, t2), s3, s4]
abbrev bM : SF := sIf (tV (e2 oGt (e2 oSub (eVar 4) (eVar 3)) (e2 oSub (eVar 2) (eVar 1)))) (sSeq (sSet 1 (eVar 3)) (sSet 2 (eVar 4))) sNx
abbrev gM : GF := gT (gsCons (gN 3) (gsCons (gN 4) gsNil))
theorem m_loop {f : List Int} : ∀ (ps : List (Int × Int)) (p : Int × Int) (t1 t2 : Tag) (s3 s4 : Slot), ∃ t1' t2' s3' s4', loopF gM (.sh []) bM (ps.map dP2) (rM f p.1 p.2 t1 t2 s3 s4) = some (.nx (rM f (best p ps).1 (best p ps).2 t1' t2' s3' s4'))
  | [], p, t1, t2, s3, s4 => ⟨t1, t2, s3, s4, rfl⟩
  | q :: r, p, t1, t2, s3, s4 => by
    have e : loopF gM (.sh []) bM ((q :: r).map dP2) (rM f p.1 p.2 t1 t2 s3 s4) = match bM (rM f p.1 p.2 t1 t2 (some (.int q.1, .own)) (some (.int q.2, .own))) with
      | some (.nx ρ2) => loopF gM (.sh []) bM (r.map dP2) ρ2
      | some (.ct ρ2) => loopF gM (.sh []) bM (r.map dP2) ρ2
      | some (.bk ρ2) => some (.nx ρ2)
      | some (.rt r) => some (.rt r)
      | none => none := rfl
    rw [e]
    have hc : tV (e2 oGt (e2 oSub (eVar 4) (eVar 3)) (e2 oSub (eVar 2) (eVar 1))) (rM f p.1 p.2 t1 t2 (some (.int q.1, .own)) (some (.int q.2, .own))) = some (decide (p.2 - p.1 < q.2 - q.1)) := rfl
    by_cases h : p.2 - p.1 < q.2 - q.1
    · have hb : bM (rM f p.1 p.2 t1 t2 (some (.int q.1, .own)) (some (.int q.2, .own))) = some (.nx (rM f q.1 q.2 (.sh [3]) (.sh [4]) (some (.int q.1, .own)) (some (.int q.2, .own)))) := by
        unfold bM
        rw [s_if, hc, decide_eq_true h, s_ifT]; rfl
      rw [hb]
      obtain ⟨a, b, c, d, hh⟩ := m_loop (f := f) r q (.sh [3]) (.sh [4]) (some (.int q.1, .own)) (some (.int q.2, .own))
      refine ⟨a, b, c, d, ?_⟩
      unfold best
      rw [if_pos h]
      exact hh
    · have hb : bM (rM f p.1 p.2 t1 t2 (some (.int q.1, .own)) (some (.int q.2, .own))) = some (.nx (rM f p.1 p.2 t1 t2 (some (.int q.1, .own)) (some (.int q.2, .own)))) := by
        unfold bM
        rw [s_if, hc, decide_eq_false h, s_ifF]; rfl
      rw [hb]
      obtain ⟨a, b, c, d, hh⟩ := m_loop (f := f) r p t1 t2 (some (.int q.1, .own)) (some (.int q.2, .own))
      refine ⟨a, b, c, d, ?_⟩
      unfold best
      rw [if_neg h]
      exact hh
theorem cut1 (a : Int) (r : List Int) : oCut (some 1) none (.lst ((a :: r).map D.int)) = some (.lst (r.map D.int)) := by
  show (if immAll ((a :: r).map D.int) = true then some (D.lst (cutD ((a :: r).map D.int) (some 1) none)) else none) = _
  rw [if_pos (imm_ints _)]
  have : cutD ((a :: r).map D.int) (some 1) none = r.map D.int := by
    unfold cutD
    have e : HT.sIx ((a :: r).map D.int).length 0 (some 1) = 1 := by
      have q := HT.sIx_nat ((a :: r).map D.int).length 0 1
      rw [show ((1 : Nat) : Int) = 1 from rfl] at q
      rw [q, List.length_map, List.length_cons]; omega
    rw [HT.sIx_none, e, List.map_cons, List.drop_succ_cons, List.drop_zero, List.length_cons, Nat.add_sub_cancel, List.take_length]
  rw [this]
theorem f_mid (a : Int) (r : List Int) : F_middle_of_gap [.lst ((a :: r).map D.int)] = some (.int (mid (a :: r))) := by
  refine runF_rt rfl ?_
  show B_middle_of_gap [some (.lst ((a :: r).map D.int), .sh []), none, none, none, none] = _
  unfold B_middle_of_gap
  have q1 : sSet 1 (e2 oIx (eVar 0) (eC (.int 0))) [some (.lst ((a :: r).map D.int), .sh []), none, none, none, none] = some (.nx [some (.lst ((a :: r).map D.int), .sh []), some (.int a, .own), none, none, none]) := by
    have hx : oIx (.lst ((a :: r).map D.int)) (.int 0) = some (.int a) := s_ixL (by rw [atI_ints (by omega) (by rw [List.length_cons]; omega)]; rfl) rfl
    rw [s_set, s_e2]
    show setK 1 _ ((oIx (.lst ((a :: r).map D.int)) (.int 0)).map _) = _
    rw [hx]; rfl
  have q2 : sSet 2 (eVar 1) [some (.lst ((a :: r).map D.int), .sh []), some (.int a, .own), none, none, none] = some (.nx (rM (a :: r) a a .own (.sh [1]) none none)) := rfl
  have hz : iZipF (eVar 0) (e1 (oCut (some 1) none) (eVar 0)) (rM (a :: r) a a .own (.sh [1]) none none) = some ((pairs (a :: r)).map dP2, .sh []) := by
    unfold iZipF
    have v0 : eVar 0 (rM (a :: r) a a .own (.sh [1]) none none) = some (.lst ((a :: r).map D.int), .sh []) := rfl
    have v1 : e1 (oCut (some 1) none) (eVar 0) (rM (a :: r) a a .own (.sh [1]) none none) = some (.lst (r.map D.int), .own) := by
      rw [s_e1, v0]
      show (oCut (some 1) none (.lst ((a :: r).map D.int))).map _ = _
      rw [cut1]; rfl
    rw [v0, v1]
    dsimp only
    rw [if_pos (by rw [imm_ints, imm_ints]; rfl)]
    refine congrArg some (Prod.ext ?_ rfl)
    show ((((a :: r).map D.int).zip (r.map D.int)).map fun p => D.tup [p.1, p.2]) = _
    rw [List.zip_map, List.map_map]
    rfl
  obtain ⟨t1, t2, s3, s4, hl⟩ := m_loop (f := a :: r) (pairs (a :: r)) (a, a) .own (.sh [1]) none none
  have hf : sFor (iZipF (eVar 0) (e1 (oCut (some 1) none) (eVar 0))) gM bM (rM (a :: r) a a .own (.sh [1]) none none) = some (.nx (rM (a :: r) (best (a, a) (pairs (a :: r))).1 (best (a, a) (pairs (a :: r))).2 t1 t2 s3 s4)) := for_nx (t := .sh []) hz hl
  rw [s_seq, q1, s_seqN, s_seq, q2, s_seqN, s_seq]
  rw [hf, s_seqN]
  unfold mid
  rw [show ((a :: r).headD 0, (a :: r).headD 0) = (a, a) from rfl]
  generalize best (a, a) (pairs (a :: r)) = p
  have v1 : eVar 1 (rM (a :: r) p.1 p.2 t1 t2 s3 s4) = some (.int p.1, tagOf 1 t1) := rfl
  have v2 : eVar 2 (rM (a :: r) p.1 p.2 t1 t2 s3 s4) = some (.int p.2, tagOf 2 t2) := rfl
  rw [s_ret, s_e2, s_e2, v1, v2, s_k2, s_oAdd, s_map, s_eC, s_k2, s_oDiv (by omega) (by omega)]
  rfl
def dB : Option Int → D
  | none => .non
  | some b => .int b
def endOf (size : Int) : Option Int → Int
  | none => size + 1
  | some b => b
def pick (size : Int) (bad : Option Int) (e : Int) (ws : List Int) : Int := if (bad.isNone && !(ws.any (· == size))) = true then size else mid (fence ws e)
def nextW (size : Int) (bad : Option Int) (e : Int) (ws : List Int) : List Int := srt (ws ++ [pick size bad e ws])
def lim (e hands : Int) : Int := if e - 1 < hands then e - 1 else hands
def wl (size : Int) (bad : Option Int) (e hands : Int) : Nat → List Int → List Int
  | 0, ws => ws
  | n + 1, ws => if (ws.length : Int) < lim e hands then wl size bad e hands n (nextW size bad e ws) else ws
theorem nextW_len {size : Int} {bad : Option Int} {e : Int} {ws : List Int} : (nextW size bad e ws).length = ws.length + 1 := by unfold nextW; rw [srt_len, List.length_append]; rfl
theorem isNon_dB (b : Option Int) : isNon (dB b) = b.isNone := by cases b <;> rfl
abbrev cW : TF := tV (e2 oLt (e1 oLen (eVar 5)) (e2 oMin2 (eVar 3) (e2 oSub (eVar 4) (eC (.int 1)))))
abbrev bW : SF := sSeq (sIf (tAnd2 (tV (e2 oIsN (eVar 1) (eC .non))) (tV (e2 (oIn true) (eVar 0) (eVar 5)))) (sApp 5 (eVar 0)) (sApp 5 (eCall F_middle_of_gap (aCons (e2 oCat (e2 oCat (eLst (aCons (eC (.int 0)) aNil)) (eVar 5)) (eLst (aCons (eVar 4) aNil))) aNil)))) (sSet 5 (e1 oSorted (eVar 5)))
def okT (t : Tag) : Prop := t = .own ∨ t = .sh []
def rW (size : Int) (bad : Option Int) (kd : D) (hands e : Int) (t4 : Tag) (ws : List Int) : Rho := [some (.int size, .sh []), some (dB bad, .sh []), some (kd, .sh []), some (.int hands, .sh []), some (.int e, t4), some (.lst (ws.map D.int), .own)]
section
variable {size hands e : Int} {bad : Option Int} {kd : D} {t4 : Tag} {ws : List Int}
theorem c_at : cW (rW size bad kd hands e t4 ws) = some (decide ((ws.length : Int) < lim e hands)) := by
  show some (decide (((ws.map D.int).length : Int) < (if e - 1 < hands then e - 1 else hands))) = _
  rw [List.length_map]; rfl
theorem in_at : (tV (e2 (oIn true) (eVar 0) (eVar 5))) (rW size bad kd hands e t4 ws) = some (!(ws.any (· == size))) := by
  rw [s_tV, s_e2]
  show Ev.kV ((oIn true (.int size) (.lst (ws.map D.int))).map _) = _
  rw [s_oIn]; rfl
theorem test_at : (tAnd2 (tV (e2 oIsN (eVar 1) (eC .non))) (tV (e2 (oIn true) (eVar 0) (eVar 5)))) (rW size bad kd hands e t4 ws) = some (bad.isNone && !(ws.any (· == size))) := by
  refine s_and2 ?_ in_at
  show some (isNon (dB bad)) = _
  rw [isNon_dB]
theorem set_app (h : okT t4) (x : Int) : mutS (rW size bad kd hands e t4 ws) 5 (.lst ((ws ++ [x]).map D.int)) = rW size bad kd hands e t4 (ws ++ [x]) := by
  rcases h with rfl | rfl <;> rfl
theorem fence_at (hl : ws.length < 63) : (e2 oCat (e2 oCat (eLst (aCons (eC (.int 0)) aNil)) (eVar 5)) (eLst (aCons (eVar 4) aNil))) (rW size bad kd hands e t4 ws) = some (.lst ((fence ws e).map D.int), .own) := by
  have h1 : oCat (.lst (([0] : List Int).map D.int)) (.lst (ws.map D.int)) = some (.lst (([0] ++ ws).map D.int)) := s_catI (by unfold PySem.sizeLine; show 1 + ws.length ≤ _; omega)
  have h2 : oCat (.lst (([0] ++ ws).map D.int)) (.lst (([e] : List Int).map D.int)) = some (.lst (([0] ++ ws ++ [e]).map D.int)) := s_catI (by unfold PySem.sizeLine; rw [List.length_append]; show 1 + ws.length + 1 ≤ _; omega)
  rw [s_e2, s_e2]
  show k2 oCat ((oCat (.lst (([0] : List Int).map D.int)) (.lst (ws.map D.int))).map _) _ = _
  rw [h1, s_map]
  show (oCat (.lst (([0] ++ ws).map D.int)) (.lst (([e] : List Int).map D.int))).map _ = _
  rw [h2]; rfl
theorem w_step (ht : okT t4) (hl : ws.length < 63) : bW (rW size bad kd hands e t4 ws) = some (.nx (rW size bad kd hands e t4 (nextW size bad e ws))) := by
  have hz : ws.length < PySem.sizeLine := by unfold PySem.sizeLine; omega
  have h1 : sIf (tAnd2 (tV (e2 oIsN (eVar 1) (eC .non))) (tV (e2 (oIn true) (eVar 0) (eVar 5)))) (sApp 5 (eVar 0)) (sApp 5 (eCall F_middle_of_gap (aCons (e2 oCat (e2 oCat (eLst (aCons (eC (.int 0)) aNil)) (eVar 5)) (eLst (aCons (eVar 4) aNil))) aNil))) (rW size bad kd hands e t4 ws) = some (.nx (rW size bad kd hands e t4 (ws ++ [pick size bad e ws]))) := by
    rw [s_if, test_at]
    unfold pick
    by_cases hb : (bad.isNone && !(ws.any (· == size))) = true
    · rw [hb, s_ifT, if_pos rfl, s_app (ns := ws) (n := size) (t1 := .sh []) rfl rfl hz, set_app ht]
    · have hb' : (bad.isNone && !(ws.any (· == size))) = false := by simpa using hb
      have hm : eCall F_middle_of_gap (aCons (e2 oCat (e2 oCat (eLst (aCons (eC (.int 0)) aNil)) (eVar 5)) (eLst (aCons (eVar 4) aNil))) aNil) (rW size bad kd hands e t4 ws) = some (.int (mid (fence ws e)), .own) := by
        rw [s_call, s_aCons, fence_at hl, s_aNil, s_consK, s_bind]
        simp only [List.map_cons, List.map_nil]
        have := f_mid 0 (ws ++ [e])
        rw [List.map_cons] at this
        rw [this]; rfl
      rw [hb', s_ifF, if_neg Bool.false_ne_true, s_app (ns := ws) hm rfl hz, set_app ht]
  unfold bW
  rw [s_seq, h1, s_seqN, s_set, s_e1]
  show setK 5 _ ((oSorted (.lst ((ws ++ [pick size bad e ws]).map D.int))).map _) = _
  rw [s_sortedI (by rw [List.length_append]; show ws.length + 1 < 64; omega)]; rfl
theorem w_loop (ht : okT t4) (hh : hands ≤ 60) : ∀ (n : Nat) (ws : List Int) (m : Nat), hands - ws.length ≤ n → n < m → sWhile cW bW m (rW size bad kd hands e t4 ws) = some (.nx (rW size bad kd hands e t4 (wl size bad e hands n ws)))
  | _, _, 0, _, h => absurd h (Nat.not_lt_zero _)
  | 0, ws, m + 1, h, _ => by
    have : ¬((ws.length : Int) < lim e hands) := by unfold lim; split <;> omega
    rw [sWhile, c_at, decide_eq_false this]; rfl
  | n + 1, ws, m + 1, h, hm => by
    rw [sWhile, c_at]
    unfold wl
    by_cases hc : (ws.length : Int) < lim e hands
    · have h1 : (ws.length : Int) < hands := by unfold lim at hc; split at hc <;> omega
      rw [decide_eq_true hc, if_pos hc]
      dsimp only
      rw [w_step ht (by omega)]
      exact w_loop ht hh n (nextW size bad e ws) m (by rw [nextW_len]; omega) (by omega)
    · rw [decide_eq_false hc, if_neg hc]
end
def ini (e : Int) (ks : List Int) : List Int := ks.filter fun k => decide (k < e)
def kI (e : Int) : D → Option D
  | .int i => if decide (i < e) = true then some (.int i) else none
  | _ => none
theorem ini_map (e : Int) : ∀ ks : List Int, (ks.map D.int).filterMap (kI e) = (ini e ks).map D.int
  | [] => rfl
  | k :: r => by
    unfold ini
    rw [List.map_cons, List.filterMap_cons, List.filter_cons]
    have hk : kI e (D.int k) = if decide (k < e) = true then some (D.int k) else none := rfl
    by_cases h : decide (k < e) = true
    · rw [hk, if_pos h, if_pos h, List.map_cons]
      dsimp only
      rw [ini_map e r]; rfl
    · rw [hk, if_neg h, if_neg h]
      exact ini_map e r
theorem ini_comp {js : List (Option Nat)} {it : IF} {ρ : Rho} {ks : List Int} {e : Int} {t : Tag} (hi : it ρ = some (ks.map D.int, t)) (hj : iniR js ρ = [none, some (.int e, .sh [])]) (hl : ks.length < 64) :
    eComp js it (gN 0) (tV (e2 oLt (eVar 0) (eVar 1))) (eVar 0) ρ = some (.lst ((ini e ks).map D.int), .own) := by
  have hc := comp_ok (js := js) (it := it) (ρ := ρ) (t := t) (g := gN 0) (tt := tV (e2 oLt (eVar 0) (eVar 1))) (te := eVar 0) (ds := ks.map D.int) (k := kI e) hi (by rw [List.length_map]; unfold PySem.sizeLine; omega) (fun d m => by
    obtain ⟨i, mi, rfl⟩ := List.mem_map.mp m
    rw [hj]
    show _ = some (if decide (i < e) = true then some (D.int i) else none)
    by_cases h : decide (i < e) = true
    · rw [if_pos h]
      refine compE_imm (ρ1 := [some (.int i, .sh []), some (.int e, .sh [])]) (tg := .sh []) rfl ?_ rfl rfl
      show some (decide (i < e)) = _
      rw [h]
    · rw [if_neg h]
      refine compE_no (ρ1 := [some (.int i, .sh []), some (.int e, .sh [])]) rfl ?_
      show some (decide (i < e)) = _
      rw [Bool.eq_false_iff.mpr h])
  rw [hc, ini_map]
theorem end_at {size : Int} {bad : Option Int} {ρ : Rho} (h0 : eVar 0 ρ = some (.int size, .sh [])) (h1 : eVar 1 ρ = some (dB bad, .sh [])) : ∃ t, okT t ∧ eIf (tV (e2 oIsN (eVar 1) (eC .non))) (e2 oAdd (eVar 0) (eC (.int 1))) (eVar 1) ρ = some (.int (endOf size bad), t) := by
  have hc : tV (e2 oIsN (eVar 1) (eC .non)) ρ = some bad.isNone := by
    rw [s_tV, s_e2, h1, s_eC, s_k2, s_isN, isNon_dB]; rfl
  cases bad with
  | none => exact ⟨.own, .inl rfl, by rw [s_eIfT (by rw [hc]; rfl), s_e2, h0, s_eC, s_k2, s_oAdd]; rfl⟩
  | some b => exact ⟨.sh [], .inr rfl, by rw [s_eIfF (by rw [hc]; rfl), h1]; rfl⟩
def W (size : Int) (bad : Option Int) (ks : List Int) (hands : Int) : List Int := wl size bad (endOf size bad) hands 100 (ini (endOf size bad) ks)
theorem f_wanted {size hands : Int} {bad : Option Int} {ks : List Int} (hh : hands ≤ 60) (hl : ks.length < 64) (kd : D) (hk : iSeqF (eVar 2) [some (.int size, .sh []), some (dB bad, .sh []), some (kd, .sh []), some (.int hands, .sh []), none, none] = some (ks.map D.int, .sh []))
    (hk2 : ∀ t, iSeqF (eVar 2) [some (.int size, .sh []), some (dB bad, .sh []), some (kd, .sh []), some (.int hands, .sh []), some (.int (endOf size bad), t), none] = some (ks.map D.int, .sh [])) :
    F_wanted_places [.int size, dB bad, kd, .int hands] = some (.lst ((W size bad ks hands).map D.int)) := by
  refine runF_rt rfl ?_
  show B_wanted_places [some (.int size, .sh []), some (dB bad, .sh []), some (kd, .sh []), some (.int hands, .sh []), none, none] = _
  unfold B_wanted_places
  obtain ⟨t4, ht, h1⟩ := end_at (size := size) (bad := bad) (ρ := [some (.int size, .sh []), some (dB bad, .sh []), some (kd, .sh []), some (.int hands, .sh []), none, none]) rfl rfl
  have q1 : sSet 4 (eIf (tV (e2 oIsN (eVar 1) (eC .non))) (e2 oAdd (eVar 0) (eC (.int 1))) (eVar 1)) [some (.int size, .sh []), some (dB bad, .sh []), some (kd, .sh []), some (.int hands, .sh []), none, none] = some (.nx [some (.int size, .sh []), some (dB bad, .sh []), some (kd, .sh []), some (.int hands, .sh []), some (.int (endOf size bad), t4), none]) := by
    rw [s_set, h1]
    rcases ht with rfl | rfl <;> rfl
  have q2 : sSet 5 (eComp [none, some 4] (iSeqF (eVar 2)) (gN 0) (tV (e2 oLt (eVar 0) (eVar 1))) (eVar 0)) [some (.int size, .sh []), some (dB bad, .sh []), some (kd, .sh []), some (.int hands, .sh []), some (.int (endOf size bad), t4), none] = some (.nx (rW size bad kd hands (endOf size bad) t4 (ini (endOf size bad) ks))) := by
    rw [s_set, ini_comp (e := endOf size bad) (hk2 t4) rfl hl]; rfl
  have q3 := w_loop (size := size) (bad := bad) (kd := kd) (e := endOf size bad) ht hh 100 (ini (endOf size bad) ks) 1000 (by omega) (by omega)
  rw [s_seq, q1, s_seqN, s_seq, q2, s_seqN, s_seq, q3, s_seqN]
  rfl
theorem ix_nat {f : List Int} {k : Nat} (h : k < f.length) : oIx (.lst (f.map D.int)) (.int k) = some (.int (f.getD k 0)) := by
  refine s_ixL ?_ rfl
  rw [atI_ints (by omega) (by omega), Int.toNat_natCast]
theorem f_wantedL {size hands : Int} {bad : Option Int} {ks : List Int} (hh : hands ≤ 60) (hl : ks.length < 64) : F_wanted_places [.int size, dB bad, .lst (ks.map D.int), .int hands] = some (.lst ((W size bad ks hands).map D.int)) := f_wanted hh hl _ rfl fun _ => rfl
theorem wl_len {size e hands : Int} {bad : Option Int} (hh : hands ≤ 60) : ∀ (n : Nat) (ws : List Int), ws.length < 64 → (wl size bad e hands n ws).length < 64
  | 0, ws, h => h
  | n + 1, ws, h => by
    unfold wl
    split
    · rename_i hc
      refine wl_len hh n _ ?_
      rw [nextW_len]
      unfold lim at hc
      split at hc <;> omega
    · exact h
theorem W_len {size hands : Int} {bad : Option Int} {ks : List Int} (hh : hands ≤ 60) (hl : ks.length < 64) : (W size bad ks hands).length < 64 := wl_len hh _ _ (Nat.lt_of_le_of_lt (List.length_filter_le _ _) hl)
theorem all_true : ∀ n : Nat, oAll (.lst (List.replicate n (.bl true))) = some (.bl true) := fun n => by
  have h : ∀ n, boolsD (List.replicate n (.bl true)) = some (List.replicate n true) := fun n => by
    induction n with
    | zero => rfl
    | succ n ih => rw [List.replicate_succ]; unfold boolsD; rw [ih]; rfl
  show (boolsD (List.replicate n (.bl true))).map _ = _
  rw [h, Option.map_some]
  congr 2
  induction n with
  | zero => rfl
  | succ n ih => rw [List.replicate_succ, List.all_cons, ih]; rfl
def mixI (c t m : Int) : Int := (c % 2147483629 + 11) * (982451653 + 57885161 * t * t) % 2147483629 % m
theorem f_mix {c t m : Int} (ht : 0 ≤ t ∧ t < 5000) (hm : 0 < m) : F_L_mix [.int c, .int t, .int m] = some (.int (mixI c t m)) := by
  refine runF_rt rfl ?_
  show B_L_mix [some (.int c, .sh []), some (.int t, .sh []), some (.int m, .sh []), none] = _
  unfold B_L_mix
  have b1 : 0 ≤ c % 2147483629 := Int.emod_nonneg _ (by omega)
  have b2 : c % 2147483629 < 2147483629 := Int.emod_lt_of_pos _ (by omega)
  have m1 : cMul 57885161 t = true := by unfold cMul; rfl
  have m2 : cMul (57885161 * t) t = true := by
    unfold cMul
    rw [decide_eq_true (show -(2 ^ 64) < t by omega), decide_eq_true (show t < 2 ^ 64 by omega), Bool.and_self, Bool.or_true]
  have m3 : cMul (c % 2147483629 + 11) (982451653 + 57885161 * t * t) = true := by
    unfold cMul
    rw [decide_eq_true (show -(2 ^ 64) < c % 2147483629 + 11 by omega), decide_eq_true (show c % 2147483629 + 11 < 2 ^ 64 by omega)]; rfl
  have q1 : sSet 3 (e2 oMul (e2 oAdd (e2 oMod (eVar 0) (eC (.int 2147483629))) (eC (.int 11))) (e2 oAdd (eC (.int 982451653)) (e2 oMul (e2 oMul (eC (.int 57885161)) (eVar 1)) (eVar 1)))) [some (.int c, .sh []), some (.int t, .sh []), some (.int m, .sh []), none] = some (.nx [some (.int c, .sh []), some (.int t, .sh []), some (.int m, .sh []), some (.int ((c % 2147483629 + 11) * (982451653 + 57885161 * t * t)), .own)]) := by
    have v0 : eVar 0 [some (.int c, .sh []), some (.int t, .sh []), some (.int m, .sh []), none] = some (.int c, .sh []) := rfl
    have v1 : eVar 1 [some (.int c, .sh []), some (.int t, .sh []), some (.int m, .sh []), none] = some (.int t, .sh []) := rfl
    simp only [s_set, s_e2, v0, v1, s_eC, s_k2, s_oMod (show (0 : Int) < 2147483629 by omega), s_map, s_oAdd, s_oMul m1, s_oMul m2, s_oMul m3]
    rfl
  have v3 : eVar 3 [some (.int c, .sh []), some (.int t, .sh []), some (.int m, .sh []), some (.int ((c % 2147483629 + 11) * (982451653 + 57885161 * t * t)), .own)] = some (.int ((c % 2147483629 + 11) * (982451653 + 57885161 * t * t)), .sh [3]) := rfl
  have v2 : eVar 2 [some (.int c, .sh []), some (.int t, .sh []), some (.int m, .sh []), some (.int ((c % 2147483629 + 11) * (982451653 + 57885161 * t * t)), .own)] = some (.int m, .sh []) := rfl
  rw [s_seq, q1, s_seqN, s_ret, s_e2, s_e2, v3, v2, s_eC, s_k2, s_oMod (show (0 : Int) < 2147483629 by omega), s_map, s_k2, s_oMod hm]
  rfl
structure Ris (e : Int) (ws : List Int) : Prop where
  so : ws.Pairwise (· < ·)
  bd : ∀ x ∈ ws, 1 ≤ x ∧ x < e
theorem between : ∀ {f : List Int} {q : Int × Int} {x : Int}, f.Pairwise (· < ·) → q ∈ pairs f → x ∈ f → x ≤ q.1 ∨ q.2 ≤ x
  | [], q, x, _, m, _ => by cases m
  | [a], q, x, _, m, _ => by cases m
  | a :: b :: r, q, x, hp, m, mx => by
    obtain ⟨h1, h2⟩ := List.pairwise_cons.mp hp
    have hs : pairs (a :: b :: r) = (a, b) :: pairs (b :: r) := rfl
    rw [hs] at m
    rcases List.mem_cons.mp m with hq | m'
    · subst hq
      rcases List.mem_cons.mp mx with hx | mx'
      · exact .inl (by show x ≤ a; omega)
      · rcases List.mem_cons.mp mx' with hx | mx2
        · exact .inr (by show b ≤ x; omega)
        · have := (List.pairwise_cons.mp h2).1 x mx2; exact .inr (by show b ≤ x; omega)
    · rcases List.mem_cons.mp mx with hx | mx'
      · have := h1 q.1 (pairs_mem m').1; exact .inl (by omega)
      · exact between h2 m' mx'
theorem fence_ris {e : Int} {ws : List Int} (h : Ris e ws) (he : 1 ≤ e) : (fence ws e).Pairwise (· < ·) := by
  refine List.pairwise_cons.mpr ⟨fun x m => ?_, List.pairwise_append.mpr ⟨h.so, List.pairwise_singleton _ _, fun x m y my => ?_⟩⟩
  · rcases List.mem_append.mp m with m | m
    · have := h.bd x m; omega
    · cases List.mem_singleton.mp m; omega
  · cases List.mem_singleton.mp my; exact (h.bd x m).2
theorem mid_in {e : Int} {ws : List Int} (h : Ris e ws) (hl : (ws.length : Int) < e - 1) : mid (fence ws e) < e ∧ mid (fence ws e) ∉ ws := by
  have hf := fence_ris h (by omega)
  obtain ⟨q, m, hq⟩ : ∃ q ∈ pairs (fence ws e), 2 ≤ q.2 - q.1 := by
    refine Classical.byContradiction fun hn => ?_
    have := wide_gap (ws ++ [e]) 0 fun q m => by
      refine Classical.byContradiction fun h => hn ⟨q, m, by omega⟩
    have q1 : (0 :: (ws ++ [e])).getLastD 0 = e := by rw [show (0 :: (ws ++ [e])) = (0 :: ws) ++ [e] from rfl, List.getLastD_concat]
    rw [q1, List.length_append, List.length_singleton] at this
    omega
  have hb := (best_ge (pairs (fence ws e)) ((fence ws e).headD 0, (fence ws e).headD 0)).2 q m
  unfold mid
  dsimp only
  rcases best_mem (pairs (fence ws e)) ((fence ws e).headD 0, (fence ws e).headD 0) with h' | h'
  · rw [h'] at hb
    dsimp only at hb
    omega
  · generalize best ((fence ws e).headD 0, (fence ws e).headD 0) (pairs (fence ws e)) = p at hb h'
    have h2 : p.2 ≤ e := by
      have := (pairs_mem h').2
      rcases List.mem_cons.mp this with z | z
      · omega
      · rcases List.mem_append.mp z with z | z
        · have := (h.bd _ z).2; omega
        · rw [List.mem_singleton.mp z]; exact Int.le_refl _
    refine ⟨by omega, fun mx => ?_⟩
    rcases between hf h' (List.mem_cons_of_mem _ (List.mem_append_left _ mx)) with z | z <;> omega
section
variable {size hands e : Int} {bad : Option Int} {ws : List Int}
theorem pick_in (h : Ris e ws) (he : e = endOf size bad) (hl : (ws.length : Int) < e - 1) : 1 ≤ pick size bad e ws ∧ pick size bad e ws < e ∧ pick size bad e ws ∉ ws := by
  unfold pick
  split
  · rename_i hc
    cases bad with
    | none =>
      have he : e = size + 1 := he
      refine ⟨by omega, by omega, fun m => ?_⟩
      have : ws.any (· == size) = true := List.any_eq_true.mpr ⟨size, m, beq_self_eq_true size⟩
      rw [this] at hc
      cases hc
    | some b => cases hc
  · obtain ⟨h1, h2⟩ := mid_in h hl
    exact ⟨mid_pos (fun x m => (h.bd x m).1) hl, h1, h2⟩
theorem next_ris (h : Ris e ws) (he : e = endOf size bad) (hl : (ws.length : Int) < e - 1) : Ris e (nextW size bad e ws) ∧ ∀ x ∈ ws, x ∈ nextW size bad e ws := by
  obtain ⟨p1, p2, p3⟩ := pick_in h he hl
  have hp : (nextW size bad e ws).Perm (ws ++ [pick size bad e ws]) := srt_perm _
  have hn : (nextW size bad e ws).Nodup := by
    refine hp.nodup_iff.mpr (List.nodup_append.mpr ⟨h.so.imp fun hlt => Int.ne_of_lt hlt, List.nodup_cons.mpr ⟨(fun m => by cases m), List.nodup_nil⟩, fun a ma b mb e => ?_⟩)
    cases List.mem_singleton.mp mb
    exact p3 (e ▸ ma)
  refine ⟨⟨?_, fun x m => ?_⟩, fun x m => hp.mem_iff.mpr (List.mem_append_left _ m)⟩
  · have hs : (nextW size bad e ws).Pairwise (· ≤ ·) := srt_sorted _
    exact (List.pairwise_and_iff.mpr ⟨hs, hn⟩).imp fun h => by have h1 := h.1; have h2 := h.2; omega
  · rcases List.mem_append.mp (hp.mem_iff.mp m) with m | m
    · exact h.bd x m
    · rw [List.mem_singleton.mp m]; exact ⟨p1, p2⟩
theorem wl_ris (he : e = endOf size bad) : ∀ (n : Nat) (ws : List Int), Ris e ws → Ris e (wl size bad e hands n ws) ∧ ∀ x ∈ ws, x ∈ wl size bad e hands n ws
  | 0, ws, h => ⟨h, fun x m => m⟩
  | n + 1, ws, h => by
    unfold wl
    split
    · rename_i hc
      have hl : (ws.length : Int) < e - 1 := by unfold lim at hc; split at hc <;> omega
      obtain ⟨a, b⟩ := next_ris h he hl
      obtain ⟨c, d⟩ := wl_ris he n (nextW size bad e ws) a
      exact ⟨c, fun x m => d x (b x m)⟩
    · exact ⟨h, fun x m => m⟩
theorem wl_grow : ∀ (n : Nat) (ws : List Int), ws.length ≤ (wl size bad e hands n ws).length
  | 0, ws => Nat.le_refl _
  | n + 1, ws => by
    unfold wl
    split
    · have := wl_grow n (nextW size bad e ws)
      rw [nextW_len] at this
      omega
    · exact Nat.le_refl _
end
def pk (f : List Int) (k : Nat) : Int × Int := (f.getD k 0, f.getD (k + 1) 0)
theorem pairs_pk : ∀ f : List Int, pairs f = (List.range (f.length - 1)).map (pk f)
  | [] => rfl
  | [a] => rfl
  | a :: b :: r => by
    have ih := pairs_pk (b :: r)
    unfold pairs at ih ⊢
    rw [List.tail_cons, List.zip_cons_cons, List.length_cons, List.length_cons, Nat.add_sub_cancel, List.range_succ_eq_map, List.map_cons, List.map_map]
    rw [List.tail_cons, List.length_cons, Nat.add_sub_cancel] at ih
    rw [ih]
    rfl
theorem ix_nat1 {f : List Int} {k : Nat} (h : k + 1 < f.length) : oIx (.lst (f.map D.int)) (.int ((k : Int) + 1)) = some (.int (f.getD (k + 1) 0)) := by
  have := ix_nat (f := f) (k := k + 1) h
  rw [show ((k + 1 : Nat) : Int) = (k : Int) + 1 by omega] at this
  exact this
theorem f_whole {a : Int} : F_L_whole [.int a] = some (.bl true) := by
  refine runF_rt rfl ?_
  rfl
def rR (fs : List Int) (e last : Int) (t2 : Tag) (s3 : Slot) : Rho := [some (.lst (fs.map D.int), .sh []), some (.int e, .sh []), some (.int last, t2), s3]
abbrev bR : SF := sSeq (sIf (tOr2 (tNot1 (tV (eCall F_L_whole (aCons (eVar 3) aNil)))) (tOr2 (tV (e2 oLe (eVar 3) (eVar 2))) (tV (e2 oGe (eVar 3) (eVar 1))))) (sRet (eC (.bl false))) sNx) (sSet 2 (eVar 3))
theorem r_step {fs : List Int} {e last x : Int} {t2 : Tag} (h1 : last < x) (h2 : x < e) : bR (rR fs e last t2 (some (.int x, .sh []))) = some (.nx (rR fs e x (.sh []) (some (.int x, .sh [])))) := by
  have v3 : eVar 3 (rR fs e last t2 (some (.int x, .sh []))) = some (.int x, .sh []) := rfl
  have c1 : tNot1 (tV (eCall F_L_whole (aCons (eVar 3) aNil))) (rR fs e last t2 (some (.int x, .sh []))) = some false := by
    rw [s_not, s_tV, s_call, s_aCons, v3, s_aNil, s_consK, s_bind]
    simp only [List.map_cons, List.map_nil]
    rw [f_whole]; rfl
  have c2 : tV (e2 oLe (eVar 3) (eVar 2)) (rR fs e last t2 (some (.int x, .sh []))) = some false := by
    show some (decide (x ≤ last)) = _
    rw [decide_eq_false (by omega)]
  have c3 : tV (e2 oGe (eVar 3) (eVar 1)) (rR fs e last t2 (some (.int x, .sh []))) = some false := by
    show some (decide (e ≤ x)) = _
    rw [decide_eq_false (by omega)]
  unfold bR
  rw [s_seq, s_if, s_orF c1, s_orF c2, c3, s_ifF, s_nx, s_seqN]; rfl
theorem r_loop {fs : List Int} {e : Int} : ∀ (l : List Int) (last : Int) (t2 : Tag) (s3 : Slot), l.Pairwise (· < ·) → (∀ x ∈ l, last < x ∧ x < e) → ∃ last' t2' s3', loopF (gN 3) (.sh []) bR (l.map D.int) (rR fs e last t2 s3) = some (.nx (rR fs e last' t2' s3'))
  | [], last, t2, s3, _, _ => ⟨last, t2, s3, rfl⟩
  | x :: r, last, t2, s3, hp, hb => by
    obtain ⟨h1, h2⟩ := List.pairwise_cons.mp hp
    obtain ⟨b1, b2⟩ := hb x List.mem_cons_self
    have e1' : loopF (gN 3) (.sh []) bR ((x :: r).map D.int) (rR fs e last t2 s3) = match bR (rR fs e last t2 (some (.int x, .sh []))) with
      | some (.nx ρ2) => loopF (gN 3) (.sh []) bR (r.map D.int) ρ2
      | some (.ct ρ2) => loopF (gN 3) (.sh []) bR (r.map D.int) ρ2
      | some (.bk ρ2) => some (.nx ρ2)
      | some (.rt r) => some (.rt r)
      | none => none := rfl
    rw [e1', r_step b1 b2]
    exact r_loop r x (.sh []) _ h2 fun y m => ⟨h1 y m, (hb y (List.mem_cons_of_mem _ m)).2⟩
theorem f_rises {fs : List Int} {e : Int} (h : Ris e fs) : F_L_rises [.lst (fs.map D.int), .int e] = some (.bl true) := by
  refine runF_rt rfl ?_
  show B_L_rises [some (.lst (fs.map D.int), .sh []), some (.int e, .sh []), none, none] = _
  obtain ⟨l', t', s', hl⟩ := r_loop (fs := fs) (e := e) fs 0 .own none h.so fun x m => ⟨by have := (h.bd x m).1; omega, (h.bd x m).2⟩
  have q1 : sSet 2 (eC (.int 0)) [some (.lst (fs.map D.int), .sh []), some (.int e, .sh []), none, none] = some (.nx (rR fs e 0 .own none)) := rfl
  have hf : sFor (iSeqF (eVar 0)) (gN 3) bR (rR fs e 0 .own none) = some (.nx (rR fs e l' t' s')) := for_nx (t := .sh []) rfl hl
  unfold B_L_rises
  rw [s_seq, q1, s_seqN, s_seq, hf, s_seqN]; rfl
def gap (q : Int × Int) : Int := q.2 - q.1
theorem f_widest {ws : List Int} {e : Int} (hl : ws.length < 63) : F_L_widest [.lst (ws.map D.int), .int e] = some (.int (maxI ((pairs (fence ws e)).map gap))) := by
  have hfl : (fence ws e).length = ws.length + 2 := by show (ws ++ [e]).length + 1 = _; rw [List.length_append]; rfl
  refine runF_rt rfl ?_
  show B_L_widest [some (.lst (ws.map D.int), .sh []), some (.int e, .sh []), none] = _
  have h1 : oCat (.lst (([0] : List Int).map D.int)) (.lst (ws.map D.int)) = some (.lst (([0] ++ ws).map D.int)) := s_catI (by unfold PySem.sizeLine; show 1 + ws.length ≤ _; omega)
  have h2 : oCat (.lst (([0] ++ ws).map D.int)) (.lst (([e] : List Int).map D.int)) = some (.lst (([0] ++ ws ++ [e]).map D.int)) := s_catI (by unfold PySem.sizeLine; rw [List.length_append]; show 1 + ws.length + 1 ≤ _; omega)
  have q1 : sSet 2 (e2 oCat (e2 oCat (eLst (aCons (eC (.int 0)) aNil)) (eVar 0)) (eLst (aCons (eVar 1) aNil))) [some (.lst (ws.map D.int), .sh []), some (.int e, .sh []), none] = some (.nx [some (.lst (ws.map D.int), .sh []), some (.int e, .sh []), some (.lst ((fence ws e).map D.int), .own)]) := by
    rw [s_set, s_e2, s_e2]
    show setK 2 _ (k2 oCat ((oCat (.lst (([0] : List Int).map D.int)) (.lst (ws.map D.int))).map _) _) = _
    rw [h1, s_map]
    show setK 2 _ ((oCat (.lst (([0] ++ ws).map D.int)) (.lst (([e] : List Int).map D.int))).map _) = _
    rw [h2]; rfl
  generalize hf : fence ws e = f at hfl q1
  have hi : iR1 (e2 oSub (e1 oLen (eVar 2)) (eC (.int 1))) [some (.lst (ws.map D.int), .sh []), some (.int e, .sh []), some (.lst (f.map D.int), .own)] = some ((List.range (f.length - 1)).map fun i : Nat => D.int (0 + (i : Int)), .own) := by
    have := ir1 (e := e2 oSub (e1 oLen (eVar 2)) (eC (.int 1))) (ρ := [some (.lst (ws.map D.int), .sh []), some (.int e, .sh []), some (.lst (f.map D.int), .own)]) (n := (f.length : Int) - 1) (t := .own) (by
      show some (D.int (((f.map D.int).length : Int) - 1), Tag.own) = _
      rw [List.length_map]) (by unfold small; rw [decide_eq_true (show -(2 ^ 62) ≤ (f.length : Int) - 1 by omega), decide_eq_true (show (f.length : Int) - 1 < 2 ^ 62 by omega)]; rfl)
    rw [show ((f.length : Int) - 1).toNat = f.length - 1 by omega] at this
    exact this
  have hc := comp_ok (js := [none, some 2]) (g := gN 0) (tt := tTrue) (te := e2 oSub (e2 oIx (eVar 1) (e2 oAdd (eVar 0) (eC (.int 1)))) (e2 oIx (eVar 1) (eVar 0))) (k := fun d => match d with
      | .int i => some (.int (gap (pk f i.toNat)))
      | _ => none) hi (by rw [List.length_map, List.length_range]; unfold PySem.sizeLine; omega) (fun d m => by
    obtain ⟨j, mj, rfl⟩ := List.mem_map.mp m
    have hj := List.mem_range.mp mj
    have i1 := ix_nat (f := f) (k := j) (by omega)
    have i2 := ix_nat1 (f := f) (k := j) (by omega)
    rw [show (0 : Int) + (j : Int) = j by omega]
    show _ = some (some (D.int (gap (pk f (j : Int).toNat))))
    rw [Int.toNat_natCast]
    refine compE_own (ρ1 := [some (.int j, .sh []), some (.lst (f.map D.int), .sh [])]) rfl rfl ?_
    have v0 : eVar 0 [some (D.int j, Tag.sh []), some (.lst (f.map D.int), .sh [])] = some (.int j, .sh []) := rfl
    have v1 : eVar 1 [some (D.int j, Tag.sh []), some (.lst (f.map D.int), .sh [])] = some (.lst (f.map D.int), .sh []) := rfl
    simp only [s_e2, v0, v1, s_eC, s_k2, s_oAdd, s_map, i1, i2, s_oSub]
    rfl)
  have hr : (((List.range (f.length - 1)).map fun i : Nat => D.int (0 + (i : Int))).filterMap fun d => match d with
      | .int i => some (D.int (gap (pk f i.toNat)))
      | _ => none) = ((pairs f).map gap).map D.int := by
    rw [pairs_pk]
    generalize List.range (f.length - 1) = l
    induction l with
    | nil => rfl
    | cons a r ih =>
      simp only [List.map_cons, List.filterMap_cons]
      rw [ih, show (0 + (a : Int)).toNat = a by omega]
  rw [hr] at hc
  have hm : ∃ a r, (pairs f).map gap = a :: r := by
    rw [pairs_pk, hfl, show ws.length + 2 - 1 = ws.length + 1 by omega, List.range_succ_eq_map, List.map_cons, List.map_cons]; exact ⟨_, _, rfl⟩
  obtain ⟨a, r, hm⟩ := hm
  unfold B_L_widest
  rw [s_seq, q1, s_seqN, s_ret, s_e1, hc, s_k1, hm]
  have : oMaxL (.lst ((a :: r).map D.int)) = some (.int (maxI (a :: r))) := by
    show (match intsD ((a :: r).map D.int) with | some (n :: r) => some (D.int (maxI (n :: r))) | _ => none) = _
    rw [intsD_map]
  rw [this]; rfl
section
variable {size e : Int} {bad : Option Int}
theorem lim_near (h : Int) : lim e (h - 1) ≤ lim e h ∧ lim e h ≤ lim e (h - 1) + 1 := by
  unfold lim
  split <;> split <;> omega
theorem wl_stop {h : Int} {ws : List Int} (hc : ¬(ws.length : Int) < lim e h) : ∀ n, wl size bad e h n ws = ws
  | 0 => rfl
  | n + 1 => by unfold wl; rw [if_neg hc]
theorem wl_one (h : Int) : ∀ (n : Nat) (ws : List Int), h - ws.length ≤ n → wl size bad e h n ws = if ((wl size bad e (h - 1) n ws).length : Int) < lim e h then nextW size bad e (wl size bad e (h - 1) n ws) else wl size bad e (h - 1) n ws
  | 0, ws, hn => by
    have hl : lim e h ≤ h := by unfold lim; split <;> omega
    show ws = if (ws.length : Int) < lim e h then nextW size bad e ws else ws
    rw [if_neg (by omega)]
  | n + 1, ws, hn => by
    obtain ⟨l1, l2⟩ := lim_near (e := e) h
    by_cases hc : (ws.length : Int) < lim e (h - 1)
    · have e1' : wl size bad e h (n + 1) ws = wl size bad e h n (nextW size bad e ws) := by
        show (if _ then _ else _) = _
        rw [if_pos (by omega)]
      have e2' : wl size bad e (h - 1) (n + 1) ws = wl size bad e (h - 1) n (nextW size bad e ws) := by
        show (if _ then _ else _) = _
        rw [if_pos hc]
      rw [e1', e2']
      exact wl_one h n _ (by rw [nextW_len]; omega)
    · rw [wl_stop hc]
      by_cases h2 : (ws.length : Int) < lim e h
      · rw [if_pos h2]
        show (if _ then _ else _) = _
        rw [if_pos h2]
        exact wl_stop (by rw [nextW_len]; omega) n
      · rw [if_neg h2]
        exact wl_stop h2 (n + 1)
theorem wl_lenE (h : Int) : ∀ (n : Nat) (ws : List Int), h - ws.length ≤ n → ((wl size bad e h n ws).length : Int) = if lim e h > ws.length then lim e h else ws.length
  | 0, ws, hn => by
    have hl : lim e h ≤ h := by unfold lim; split <;> omega
    show (ws.length : Int) = _
    rw [if_neg (by omega)]
  | n + 1, ws, hn => by
    by_cases hc : (ws.length : Int) < lim e h
    · have e1' : wl size bad e h (n + 1) ws = wl size bad e h n (nextW size bad e ws) := by
        show (if _ then _ else _) = _
        rw [if_pos hc]
      rw [e1', wl_lenE h n _ (by rw [nextW_len]; omega), nextW_len, if_pos (show lim e h > ws.length by omega)]
      split <;> omega
    · rw [wl_stop hc, if_neg (by omega)]
end
theorem last_max {L : List Int} {a : Int} (hs : L.Pairwise (· < ·)) (ha : a ∈ L) (hm : ∀ x ∈ L, x ≤ a) : ∃ L', L = L' ++ [a] := by
  have hne : L ≠ [] := fun z => by rw [z] at ha; cases ha
  have e1' := List.dropLast_concat_getLast hne
  generalize L.dropLast = M at e1'
  generalize L.getLast hne = z at e1'
  rw [← e1'] at hs ha hm ⊢
  obtain ⟨_, _, h3⟩ := List.pairwise_append.mp hs
  rcases List.mem_append.mp ha with m | m
  · have := h3 a m z (List.mem_singleton.mpr rfl)
    have := hm z (List.mem_append_right _ (List.mem_singleton.mpr rfl))
    omega
  · rw [List.mem_singleton.mp m]; exact ⟨M, rfl⟩
theorem first_min {L : List Int} {a : Int} (hs : L.Pairwise (· < ·)) (ha : a ∈ L) (hm : ∀ x ∈ L, a ≤ x) : ∃ L', L = a :: L' := by
  cases L with
  | nil => cases ha
  | cons y r =>
    rcases List.mem_cons.mp ha with z | m
    · exact ⟨r, by rw [z]⟩
    · have := (List.pairwise_cons.mp hs).1 a m
      have := hm y List.mem_cons_self
      omega
theorem atI_last (L : List Int) (a : Int) : oIx (.lst ((L ++ [a]).map D.int)) (.int (-1)) = some (.int a) := by
  refine s_ixL ?_ rfl
  unfold atI ixN
  rw [List.length_map, List.length_append, List.length_singleton, if_neg (by omega)]
  have : ((L.length + 1 : Nat) : Int) + -1 = L.length := by omega
  first
    | (rw [if_pos (by omega)]; rw [Option.bind_some, List.getElem?_map]; rw [show ((-1 : Int) + ((L.length + 1 : Nat) : Int)).toNat = L.length by omega]; rw [List.getElem?_append_right (Nat.le_refl _), Nat.sub_self]; rfl)
    | (rw [if_pos (by omega)]; rw [Option.bind_some, List.getElem?_map]; rw [show (((L.length + 1 : Nat) : Int) + (-1 : Int)).toNat = L.length by omega]; rw [List.getElem?_append_right (Nat.le_refl _), Nat.sub_self]; rfl)
theorem about {ws : List Int} {e : Int} (h : Ris e ws) (hl : (ws.length : Int) < e - 1) : ∃ a b M N, (0 :: ws.filter fun x => decide (x < mid (fence ws e))) = M ++ [a] ∧ ((ws.filter fun x => decide (mid (fence ws e) < x)) ++ [e]) = b :: N ∧ b - a = maxI ((pairs (fence ws e)).map gap) := by
  have hf := fence_ris h (by omega)
  obtain ⟨q, m, hq⟩ : ∃ q ∈ pairs (fence ws e), 2 ≤ q.2 - q.1 := by
    refine Classical.byContradiction fun hn => ?_
    have := wide_gap (ws ++ [e]) 0 fun q m => by
      refine Classical.byContradiction fun h => hn ⟨q, m, by omega⟩
    have q1 : (0 :: (ws ++ [e])).getLastD 0 = e := by rw [show (0 :: (ws ++ [e])) = (0 :: ws) ++ [e] from rfl, List.getLastD_concat]
    rw [q1, List.length_append, List.length_singleton] at this
    omega
  have hb := (best_ge (pairs (fence ws e)) ((fence ws e).headD 0, (fence ws e).headD 0)).2
  have hbm : best ((fence ws e).headD 0, (fence ws e).headD 0) (pairs (fence ws e)) ∈ pairs (fence ws e) := by
    rcases best_mem (pairs (fence ws e)) ((fence ws e).headD 0, (fence ws e).headD 0) with h' | h'
    · have := hb q m
      rw [h'] at this
      dsimp only at this
      omega
    · exact h'
  have hmid : mid (fence ws e) = ((best ((fence ws e).headD 0, (fence ws e).headD 0) (pairs (fence ws e))).1 + (best ((fence ws e).headD 0, (fence ws e).headD 0) (pairs (fence ws e))).2) / 2 := rfl
  generalize best ((fence ws e).headD 0, (fence ws e).headD 0) (pairs (fence ws e)) = p at hb hbm hmid
  have hp2 : 2 ≤ p.2 - p.1 := by have := hb q m; omega
  generalize mid (fence ws e) = c at hmid
  obtain ⟨f1, f2⟩ := pairs_mem hbm
  have hle : ∀ x ∈ fence ws e, x ≤ e := fun x mx => by
    rcases List.mem_cons.mp mx with z | z
    · omega
    · rcases List.mem_append.mp z with z | z
      · have := (h.bd x z).2; omega
      · rw [List.mem_singleton.mp z]; exact Int.le_refl _
  have hge : ∀ x ∈ fence ws e, 0 ≤ x := fun x mx => by
    rcases List.mem_cons.mp mx with z | z
    · omega
    · rcases List.mem_append.mp z with z | z
      · have := (h.bd x z).1; omega
      · rw [List.mem_singleton.mp z]; omega
  have h2e := hle _ f2
  have h10 := hge _ f1
  obtain ⟨M, hM⟩ := last_max (L := 0 :: ws.filter fun x => decide (x < c)) (a := p.1) (by
    refine List.pairwise_cons.mpr ⟨fun x mx => ?_, h.so.filter _⟩
    have := (h.bd x (List.mem_filter.mp mx).1).1
    omega) (by
    rcases List.mem_cons.mp f1 with z | z
    · rw [z]; exact List.mem_cons_self
    · rcases List.mem_append.mp z with z | z
      · exact List.mem_cons_of_mem _ (List.mem_filter.mpr ⟨z, decide_eq_true (by omega)⟩)
      · have := List.mem_singleton.mp z; omega) (fun x mx => by
    have hx : x ∈ fence ws e ∧ x < c := by
      rcases List.mem_cons.mp mx with z | z
      · exact ⟨by rw [z]; exact List.mem_cons_self, by omega⟩
      · exact ⟨List.mem_cons_of_mem _ (List.mem_append_left _ (List.mem_filter.mp z).1), of_decide_eq_true (List.mem_filter.mp z).2⟩
    rcases between hf hbm hx.1 with z | z <;> omega)
  obtain ⟨N, hN⟩ := first_min (L := (ws.filter fun x => decide (c < x)) ++ [e]) (a := p.2) (by
    refine List.pairwise_append.mpr ⟨h.so.filter _, List.pairwise_singleton _ _, fun x mx y my => ?_⟩
    rw [List.mem_singleton.mp my]
    exact (h.bd x (List.mem_filter.mp mx).1).2) (by
    rcases List.mem_cons.mp f2 with z | z
    · omega
    · rcases List.mem_append.mp z with z | z
      · exact List.mem_append_left _ (List.mem_filter.mpr ⟨z, decide_eq_true (by omega)⟩)
      · exact List.mem_append_right _ z) (fun x mx => by
    have hx : x ∈ fence ws e ∧ c < x := by
      rcases List.mem_append.mp mx with z | z
      · exact ⟨List.mem_cons_of_mem _ (List.mem_append_left _ (List.mem_filter.mp z).1), of_decide_eq_true (List.mem_filter.mp z).2⟩
      · exact ⟨List.mem_cons_of_mem _ (List.mem_append_right _ z), by rw [List.mem_singleton.mp z]; omega⟩
    rcases between hf hbm hx.1 with z | z <;> omega)
  refine ⟨p.1, p.2, M, N, hM, hN, ?_⟩
  have hne : (pairs (fence ws e)).map gap ≠ [] := fun z => by
    have := List.map_eq_nil_iff.mp z
    rw [this] at hbm
    cases hbm
  obtain ⟨g1, g2⟩ := maxI_spec hne
  obtain ⟨q', mq, eq⟩ := List.mem_map.mp g1
  have a1 := hb q' mq
  have a2 := g2 (gap p) (List.mem_map.mpr ⟨p, hbm, rfl⟩)
  have a3 : p.2 - p.1 ≤ maxI ((pairs (fence ws e)).map gap) := a2
  have a4 : q'.2 - q'.1 = maxI ((pairs (fence ws e)).map gap) := eq
  omega
theorem lay_ints (ns : List Int) : layOk (.lst (ns.map D.int)) = true := by
  have e : py (.lst (ns.map D.int)) = .list (ns.map PyData.int) := by unfold py; rw [pys_ints]
  unfold layOk
  rw [e]
  have a1 : okPy (.lst (ns.map D.int)) = true := by unfold okPy; exact okPys_ints ns
  have a2 : (PyData.list (ns.map PyData.int)).canLay0 = true := by simp only [PyData.canLay0]; exact canAll_ints ns
  have a3 : (PyData.list (ns.map PyData.int)).depth ≤ 40 := by simp only [PyData.depth, depthAll_ints ns]; omega
  rw [a1, a2, decide_eq_true a3]
  rfl
def flt (f : Int → Bool) : D → Option D
  | .int i => if f i = true then some (.int i) else none
  | _ => none
theorem flt_map (f : Int → Bool) : ∀ l : List Int, (l.map D.int).filterMap (flt f) = (l.filter f).map D.int
  | [] => rfl
  | k :: r => by
    rw [List.map_cons, List.filterMap_cons, List.filter_cons]
    have hk : flt f (D.int k) = if f k = true then some (D.int k) else none := rfl
    by_cases h : f k = true
    · rw [hk, if_pos h, if_pos h, List.map_cons]
      dsimp only
      rw [flt_map f r]
    · rw [hk, if_neg h, if_neg h]
      exact flt_map f r
theorem flt_comp {js : List (Option Nat)} {it : IF} {ρ : Rho} {ks : List Int} {t : Tag} {f : Int → Bool} {tt : TF} (hi : it ρ = some (ks.map D.int, t)) (hl : ks.length < 64) (ht : ∀ i, ∃ R, gN 0 (.int i) (.sh []) (iniR js ρ) = some (some (.int i, .sh []) :: R) ∧ tt (some (.int i, .sh []) :: R) = some (f i)) :
    eComp js it (gN 0) tt (eVar 0) ρ = some (.lst ((ks.filter f).map D.int), .own) := by
  have hc := comp_ok (js := js) (it := it) (ρ := ρ) (t := t) (g := gN 0) (tt := tt) (te := eVar 0) (ds := ks.map D.int) (k := flt f) hi (by rw [List.length_map]; unfold PySem.sizeLine; omega) (fun d m => by
    obtain ⟨i, mi, rfl⟩ := List.mem_map.mp m
    obtain ⟨R, r1, r2⟩ := ht i
    show _ = some (if f i = true then some (D.int i) else none)
    by_cases h : f i = true
    · rw [if_pos h]
      exact compE_imm (tg := .sh []) r1 (by rw [r2, h]) rfl rfl
    · rw [if_neg h]
      exact compE_no r1 (by rw [r2, Bool.eq_false_iff.mpr h]))
  rw [hc, flt_map]
theorem not_in {js : List (Option Nat)} {it : IF} {ρ : Rho} {ks ws : List Int} {t : Tag} (hi : it ρ = some (ks.map D.int, t)) (hl : ks.length < 64) (hj : iniR js ρ = [none, some (.lst (ws.map D.int), .sh [])]) : eComp js it (gN 0) (tV (e2 (oIn true) (eVar 0) (eVar 1))) (eVar 0) ρ = some (.lst ((ks.filter fun i => !(ws.any (· == i))).map D.int), .own) := by
  refine flt_comp (f := fun i => !(ws.any (· == i))) hi hl fun i => ⟨[some (.lst (ws.map D.int), .sh [])], by rw [hj]; rfl, ?_⟩
  rw [s_tV, s_e2]
  show Ev.kV ((oIn true (.int i) (.lst (ws.map D.int))).map _) = _
  rw [s_oIn]; rfl
def rX (size : Int) (bad : Option Int) (ks : List Int) (hands : Int) (fs : List Int) (e : Int) (s6 s7 s8 s9 : Slot) : Rho := [some (.int size, .sh []), some (dB bad, .sh []), some (.lst (ks.map D.int), .sh []), some (.int hands, .sh []), some (.lst (fs.map D.int), .sh []), some (.int e, .sh []), s6, s7, s8, s9]
theorem new_one {size e : Int} {bad : Option Int} {ws : List Int} (h3 : pick size bad e ws ∉ ws) : ((nextW size bad e ws).filter fun i => !(ws.any (· == i))) = [pick size bad e ws] := by
  have hp : (nextW size bad e ws).Perm (ws ++ [pick size bad e ws]) := srt_perm _
  have h1 := hp.filter fun i => !(ws.any (· == i))
  have h2 : ((ws ++ [pick size bad e ws]).filter fun i => !(ws.any (· == i))) = [pick size bad e ws] := by
    rw [List.filter_append]
    have a1 : (ws.filter fun i => !(ws.any (· == i))) = [] := List.filter_eq_nil_iff.mpr fun x m => by
      have : ws.any (· == x) = true := List.any_eq_true.mpr ⟨x, m, beq_self_eq_true x⟩
      rw [this]; decide
    have a2 : ([pick size bad e ws].filter fun i => !(ws.any (· == i))) = [pick size bad e ws] := by
      have : ws.any (· == pick size bad e ws) = false := Bool.eq_false_iff.mpr fun z => by
        obtain ⟨y, my, ey⟩ := List.any_eq_true.mp z
        have := beq_iff_eq.mp ey
        exact h3 (this ▸ my)
      rw [List.filter_cons, this]; rfl
    rw [a1, a2]; rfl
  rw [h2] at h1
  exact List.perm_singleton.mp h1
theorem f_fewer {size hands : Int} {bad : Option Int} {ks : List Int} (hh : 2 ≤ hands ∧ hands ≤ 60) (hl : ks.length < 64) (hk : Ris (endOf size bad) (ini (endOf size bad) ks)) : F_L_fewer [.int size, dB bad, .lst (ks.map D.int), .int hands, .lst ((W size bad ks hands).map D.int), .int (endOf size bad)] = some (.bl true) := by
  have hwp := f_wantedL (size := size) (bad := bad) (ks := ks) (hands := hands - 1) (by omega) hl
  have hone : W size bad ks hands = if ((W size bad ks (hands - 1)).length : Int) < lim (endOf size bad) hands then nextW size bad (endOf size bad) (W size bad ks (hands - 1)) else W size bad ks (hands - 1) := wl_one hands 100 _ (by omega)
  have hr : Ris (endOf size bad) (W size bad ks (hands - 1)) := (wl_ris (size := size) (bad := bad) (hands := hands - 1) rfl 100 _ hk).1
  have hlen := W_len (size := size) (bad := bad) (ks := ks) (hands := hands - 1) (by omega) hl
  have hlim : lim (endOf size bad) hands ≤ hands ∧ lim (endOf size bad) hands ≤ endOf size bad - 1 := by unfold lim; split <;> omega
  refine runF_rt rfl ?_
  show B_L_fewer (rX size bad ks hands (W size bad ks hands) (endOf size bad) none none none none) = _
  generalize W size bad ks (hands - 1) = ws at hwp hone hr hlen
  generalize W size bad ks hands = fs at hone
  generalize he : endOf size bad = e at hone hr hlim
  have q1 : sSet 6 (eCall F_wanted_places (aCons (eVar 0) (aCons (eVar 1) (aCons (e1 oList (eVar 2)) (aCons (e2 oSub (eVar 3) (eC (.int 1))) aNil))))) (rX size bad ks hands fs e none none none none) = some (.nx (rX size bad ks hands fs e (some (.lst (ws.map D.int), .own)) none none none)) := by
    have v0 : eVar 0 (rX size bad ks hands fs e none none none none) = some (.int size, .sh []) := rfl
    have v1 : eVar 1 (rX size bad ks hands fs e none none none none) = some (dB bad, .sh []) := rfl
    have v2 : eVar 2 (rX size bad ks hands fs e none none none none) = some (.lst (ks.map D.int), .sh []) := rfl
    have v3 : eVar 3 (rX size bad ks hands fs e none none none none) = some (.int hands, .sh []) := rfl
    rw [s_set, s_call, s_aCons, s_aCons, s_aCons, s_aCons, s_e1, s_e2, v0, v1, v2, v3, s_k1, s_listI, s_map, s_eC, s_k2, s_oSub, s_map, s_aNil, s_consK, s_consK, s_consK, s_consK, s_bind]
    simp only [List.map_cons, List.map_nil]
    rw [hwp]; rfl
  have c1 : tV (e2 oEq (e1 oLen (eVar 6)) (e1 oLen (eVar 4))) (rX size bad ks hands fs e (some (.lst (ws.map D.int), .own)) none none none) = some ((ws.length : Int) == (fs.length : Int)) := by
    show some (((ws.map D.int).length : Int) == ((fs.map D.int).length : Int)) = _
    rw [List.length_map, List.length_map]
  unfold B_L_fewer
  rw [s_seq, q1, s_seqN, s_seq, s_if, c1]
  by_cases hc : (ws.length : Int) < lim e hands
  · rw [if_pos hc] at hone
    obtain ⟨p1, p2, p3⟩ := pick_in (size := size) (bad := bad) hr he.symm (by omega)
    have hnew := new_one (size := size) (bad := bad) (e := e) p3
    have hfl : fs.length = ws.length + 1 := by rw [hone, nextW_len]
    rw [← hone] at hnew
    rw [beq_eq_false_iff_ne.mpr (show (ws.length : Int) ≠ (fs.length : Int) by omega), s_ifF, s_nx, s_seqN]
    have hpk : pick size bad e ws = if (bad.isNone && !(ws.any (· == size))) = true then size else mid (fence ws e) := rfl
    generalize pick size bad e ws = x at hnew hpk p1 p2 p3
    have q2 : sSet 7 (eComp [none, some 6] (iSeqF (eVar 4)) (gN 0) (tV (e2 (oIn true) (eVar 0) (eVar 1))) (eVar 0)) (rX size bad ks hands fs e (some (.lst (ws.map D.int), .own)) none none none) = some (.nx (rX size bad ks hands fs e (some (.lst (ws.map D.int), .own)) (some (.lst (([x] : List Int).map D.int), .own)) none none)) := by
      rw [s_set, not_in (ks := fs) (ws := ws) (t := .sh []) rfl (by omega) rfl, hnew]; rfl
    have d1 : tV (e2 oNe (e1 oLen (eVar 7)) (eC (.int 1))) (rX size bad ks hands fs e (some (.lst (ws.map D.int), .own)) (some (.lst (([x] : List Int).map D.int), .own)) none none) = some false := rfl
    have d2 : tV (e2 oNe (e1 oLen (eVar 6)) (e2 oSub (e1 oLen (eVar 4)) (eC (.int 1)))) (rX size bad ks hands fs e (some (.lst (ws.map D.int), .own)) (some (.lst (([x] : List Int).map D.int), .own)) none none) = some false := by
      show some (!(((ws.map D.int).length : Int) == ((fs.map D.int).length : Int) - 1)) = _
      rw [List.length_map, List.length_map, beq_iff_eq.mpr (show (ws.length : Int) = (fs.length : Int) - 1 by omega)]; rfl
    have d3 : tNot1 (tV (eCall F_L_rises (aCons (eVar 6) (aCons (eVar 5) aNil)))) (rX size bad ks hands fs e (some (.lst (ws.map D.int), .own)) (some (.lst (([x] : List Int).map D.int), .own)) none none) = some false := by
      have v6 : eVar 6 (rX size bad ks hands fs e (some (.lst (ws.map D.int), .own)) (some (.lst (([x] : List Int).map D.int), .own)) none none) = some (.lst (ws.map D.int), .sh [6]) := rfl
      have v5 : eVar 5 (rX size bad ks hands fs e (some (.lst (ws.map D.int), .own)) (some (.lst (([x] : List Int).map D.int), .own)) none none) = some (.int e, .sh []) := rfl
      rw [s_not, s_tV, s_call, s_aCons, s_aCons, v6, v5, s_aNil, s_consK, s_consK, s_bind]
      simp only [List.map_cons, List.map_nil]
      rw [f_rises hr]; rfl
    have hx0 : ∀ s8 s9, e2 oIx (eVar 7) (eC (.int 0)) (rX size bad ks hands fs e (some (.lst (ws.map D.int), .own)) (some (.lst (([x] : List Int).map D.int), .own)) s8 s9) = some (.int x, .own) := fun _ _ => rfl
    have d4 : tAnd2 (tV (e2 oIsN (eVar 1) (eC .non))) (tV (e2 oEq (e2 oIx (eVar 7) (eC (.int 0))) (eVar 0))) (rX size bad ks hands fs e (some (.lst (ws.map D.int), .own)) (some (.lst (([x] : List Int).map D.int), .own)) none none) = some (bad.isNone && (x == size)) := by
      refine s_and2 ?_ rfl
      show some (isNon (dB bad)) = _
      rw [isNon_dB]
    rw [s_seq, q2, s_seqN, s_seq, s_if, s_orF d1, s_orF d2, d3, s_ifF, s_nx, s_seqN, s_seq, s_if, d4]
    by_cases hb : (bad.isNone && (x == size)) = true
    · rw [hb, s_ifT]; rfl
    · have hb' : (bad.isNone && (x == size)) = false := by simpa using hb
      have hxm : x = mid (fence ws e) := by
        rw [hpk]
        by_cases z : (bad.isNone && !(ws.any (· == size))) = true
        · exfalso
          rw [if_pos z] at hpk
          have : bad.isNone = true := ((Bool.and_eq_true _ _).mp z).1
          apply hb
          rw [this, hpk]; simp
        · rw [if_neg z]
      obtain ⟨a, b, M, N, hM, hN, hg⟩ := about hr (by omega)
      rw [← hxm] at hM hN
      have q3 : sSet 8 (e2 oCat (eLst (aCons (eC (.int 0)) aNil)) (eComp [none, some 7] (iSeqF (eVar 6)) (gN 0) (tV (e2 oLt (eVar 0) (e2 oIx (eVar 1) (eC (.int 0))))) (eVar 0))) (rX size bad ks hands fs e (some (.lst (ws.map D.int), .own)) (some (.lst (([x] : List Int).map D.int), .own)) none none) = some (.nx (rX size bad ks hands fs e (some (.lst (ws.map D.int), .own)) (some (.lst (([x] : List Int).map D.int), .own)) (some (.lst ((M ++ [a]).map D.int), .own)) none)) := by
        have hcm := flt_comp (js := [none, some 7]) (it := iSeqF (eVar 6)) (ρ := rX size bad ks hands fs e (some (.lst (ws.map D.int), .own)) (some (.lst (([x] : List Int).map D.int), .own)) none none) (ks := ws) (t := .sh [6]) (f := fun i => decide (i < x)) (tt := tV (e2 oLt (eVar 0) (e2 oIx (eVar 1) (eC (.int 0))))) rfl hlen fun i => ⟨_, rfl, rfl⟩
        have hl0 : eLst (aCons (eC (.int 0)) aNil) (rX size bad ks hands fs e (some (.lst (ws.map D.int), .own)) (some (.lst (([x] : List Int).map D.int), .own)) none none) = some (.lst (([0] : List Int).map D.int), .own) := rfl
        have hlf := List.length_filter_le (fun i => decide (i < x)) ws
        rw [s_set, s_e2, hl0, hcm, s_k2, s_catI (by unfold PySem.sizeLine; show 1 + _ ≤ _; omega)]
        show setK 8 _ (some (.lst ((0 :: ws.filter fun i => decide (i < x)).map D.int), .own)) = _
        rw [hM]; rfl
      have q4 : sSet 9 (e2 oCat (eComp [none, some 7] (iSeqF (eVar 6)) (gN 0) (tV (e2 oGt (eVar 0) (e2 oIx (eVar 1) (eC (.int 0))))) (eVar 0)) (eLst (aCons (eVar 5) aNil))) (rX size bad ks hands fs e (some (.lst (ws.map D.int), .own)) (some (.lst (([x] : List Int).map D.int), .own)) (some (.lst ((M ++ [a]).map D.int), .own)) none) = some (.nx (rX size bad ks hands fs e (some (.lst (ws.map D.int), .own)) (some (.lst (([x] : List Int).map D.int), .own)) (some (.lst ((M ++ [a]).map D.int), .own)) (some (.lst ((b :: N).map D.int), .own)))) := by
        have hcm := flt_comp (js := [none, some 7]) (it := iSeqF (eVar 6)) (ρ := rX size bad ks hands fs e (some (.lst (ws.map D.int), .own)) (some (.lst (([x] : List Int).map D.int), .own)) (some (.lst ((M ++ [a]).map D.int), .own)) none) (ks := ws) (t := .sh [6]) (f := fun i => decide (x < i)) (tt := tV (e2 oGt (eVar 0) (e2 oIx (eVar 1) (eC (.int 0))))) rfl hlen fun i => ⟨_, rfl, rfl⟩
        have hl0 : eLst (aCons (eVar 5) aNil) (rX size bad ks hands fs e (some (.lst (ws.map D.int), .own)) (some (.lst (([x] : List Int).map D.int), .own)) (some (.lst ((M ++ [a]).map D.int), .own)) none) = some (.lst (([e] : List Int).map D.int), .sh []) := rfl
        have hlf := List.length_filter_le (fun i => decide (x < i)) ws
        rw [s_set, s_e2, hl0, hcm, s_k2, s_catI (by unfold PySem.sizeLine; show _ + 1 ≤ _; omega), hN]; rfl
      have v9 : eVar 9 (rX size bad ks hands fs e (some (.lst (ws.map D.int), .own)) (some (.lst (([x] : List Int).map D.int), .own)) (some (.lst ((M ++ [a]).map D.int), .own)) (some (.lst ((b :: N).map D.int), .own))) = some (.lst ((b :: N).map D.int), .sh [9]) := rfl
      have v8 : eVar 8 (rX size bad ks hands fs e (some (.lst (ws.map D.int), .own)) (some (.lst (([x] : List Int).map D.int), .own)) (some (.lst ((M ++ [a]).map D.int), .own)) (some (.lst ((b :: N).map D.int), .own))) = some (.lst ((M ++ [a]).map D.int), .sh [8]) := rfl
      have v6 : eVar 6 (rX size bad ks hands fs e (some (.lst (ws.map D.int), .own)) (some (.lst (([x] : List Int).map D.int), .own)) (some (.lst ((M ++ [a]).map D.int), .own)) (some (.lst ((b :: N).map D.int), .own))) = some (.lst (ws.map D.int), .sh [6]) := rfl
      have v5 : eVar 5 (rX size bad ks hands fs e (some (.lst (ws.map D.int), .own)) (some (.lst (([x] : List Int).map D.int), .own)) (some (.lst ((M ++ [a]).map D.int), .own)) (some (.lst ((b :: N).map D.int), .own))) = some (.int e, .sh []) := rfl
      have i9 : oIx (.lst ((b :: N).map D.int)) (.int 0) = some (.int b) := s_ixL (by rw [atI_ints (by omega) (by rw [List.length_cons]; omega)]; rfl) rfl
      have i8 := atI_last M a
      have hng : e1 oNeg (eC (.int 1)) (rX size bad ks hands fs e (some (.lst (ws.map D.int), .own)) (some (.lst (([x] : List Int).map D.int), .own)) (some (.lst ((M ++ [a]).map D.int), .own)) (some (.lst ((b :: N).map D.int), .own))) = some (.int (-1), .own) := rfl
      have hwd : eCall F_L_widest (aCons (eVar 6) (aCons (eVar 5) aNil)) (rX size bad ks hands fs e (some (.lst (ws.map D.int), .own)) (some (.lst (([x] : List Int).map D.int), .own)) (some (.lst ((M ++ [a]).map D.int), .own)) (some (.lst ((b :: N).map D.int), .own))) = some (.int (b - a), .own) := by
        rw [s_call, s_aCons, s_aCons, v6, v5, s_aNil, s_consK, s_consK, s_bind]
        simp only [List.map_cons, List.map_nil]
        rw [f_widest (by omega), hg]; rfl
      rw [hb', s_ifF, s_nx, s_seqN, s_seq, q3, s_seqN, s_seq, q4, s_seqN, s_ret, s_e2, s_e2, s_e2, s_e2, v9, v8, s_eC, hng, hwd, s_k2, i9, s_map, s_k2, i8, s_map, s_k2, s_oSub, s_map, s_k2, s_oEq, beq_self_eq_true]
      rfl
  · rw [if_neg hc] at hone
    subst hone
    rw [beq_self_eq_true, s_ifT]
    have v6 : eVar 6 (rX size bad ks hands fs e (some (.lst (fs.map D.int), .own)) none none none) = some (.lst (fs.map D.int), .sh [6]) := rfl
    have v4 : eVar 4 (rX size bad ks hands fs e (some (.lst (fs.map D.int), .own)) none none none) = some (.lst (fs.map D.int), .sh []) := rfl
    rw [s_ret, s_e2, v6, v4, s_k2, s_eqPR (lay_ints fs)]; rfl
end K36
namespace K36
open PySem L2 L2.Ev
def rT (ns ls : List Int) (R : List Slot) : Rho := some (dI ns, .sh []) :: some (.lst (ls.map D.int), .own) :: R
theorem mut1 {ns ls l' : List Int} {R : List Slot} (hg : ∀ s ∈ R, good s) : mutS (rT ns ls R) 1 (.lst (l'.map D.int)) = rT ns l' R := by
  have h : R.map (dropT 1) = R := by
    conv => rhs; rw [← List.map_id R]
    exact List.map_congr_left fun s m => hg s m 1
  show some (dI ns, Tag.sh []) :: some (D.lst (l'.map D.int), Tag.own) :: R.map (dropT 1) = _
  rw [h]; rfl
section
variable {ns ls : List Int} {R : List Slot}
theorem tkX {f : XF} {m : Int} {l1 : List Int} (hg : ∀ s ∈ R, good s) (hf : f (rT ns ls R) = some (.int m, rT ns l1 R)) (hm : 0 < m) : ∃ v l', 0 ≤ v ∧ v < m ∧ xM 1 takeG (xaCons f xaNil) (rT ns ls R) = some (.int v, rT ns l' R) := by
  obtain ⟨v, l', h1, h2, h3⟩ := take_at l1 hm
  refine ⟨v, l', h1, h2, ?_⟩
  rw [xm_at (w := (.lst (ls.map D.int), .own)) (ls := l1) (es := [.int m]) (ρ1 := rT ns l1 R) rfl (s_xa hf s_xa0) rfl h3, mut1 hg]
theorem tkF {f : EF} {m : Int} {t : Tag} (hg : ∀ s ∈ R, good s) (hf : f (rT ns ls R) = some (.int m, t)) (hm : 0 < m) : ∃ v l', 0 ≤ v ∧ v < m ∧ xM 1 takeG (xaCons (xP f) xaNil) (rT ns ls R) = some (.int v, rT ns l' R) := tkX hg (s_xP hf rfl) hm
theorem xc {i : Int} : xP (eC (.int i)) (rT ns ls R) = some (.int i, rT ns ls R) := s_xP rfl rfl
theorem one_plus {f : XF} {v : Int} {l' : List Int} (h : f (rT ns ls R) = some (.int v, rT ns l' R)) : x2 oAdd (xP (eC (.int 1))) f (rT ns ls R) = some (.int (1 + v), rT ns l' R) := s_x2 xc h rfl
def kM (c sh : Int) : D → Option D
  | .int i => if (mixI c i sh == 0) = true then some (.int i) else none
  | _ => none
theorem kM_map (c sh : Int) : ∀ l : List Int, (l.map D.int).filterMap (kM c sh) = (l.filter fun i => mixI c i sh == 0).map D.int
  | [] => rfl
  | k :: r => by
    rw [List.map_cons, List.filterMap_cons, List.filter_cons]
    have hk : kM c sh (D.int k) = if (mixI c k sh == 0) = true then some (D.int k) else none := rfl
    by_cases h : (mixI c k sh == 0) = true
    · rw [hk, if_pos h, if_pos h, List.map_cons]
      dsimp only
      rw [kM_map c sh r]
    · rw [hk, if_neg h, if_neg h]
      exact kM_map c sh r
end
theorem ris_len : ∀ (ws : List Int) (lo e : Int), ws.Pairwise (· < ·) → (∀ x ∈ ws, lo ≤ x ∧ x < e) → lo ≤ e → (ws.length : Int) ≤ e - lo
  | [], lo, e, _, _, h => by show (0 : Int) ≤ e - lo; omega
  | x :: r, lo, e, hp, hb, h => by
    obtain ⟨h1, h2⟩ := List.pairwise_cons.mp hp
    obtain ⟨b1, b2⟩ := hb x List.mem_cons_self
    have := ris_len r (x + 1) e h2 (fun y m => ⟨by have := h1 y m; omega, (hb y (List.mem_cons_of_mem _ m)).2⟩) (by omega)
    rw [List.length_cons]
    omega
theorem size_in {size hands : Int} {ks : List Int} (hk : Ris (size + 1) (ini (size + 1) ks)) (hs : 0 < size) (hl : ((ini (size + 1) ks).length : Int) < hands) : size ∈ W size none ks hands := by
  unfold W
  show size ∈ wl size none (size + 1) hands 100 (ini (size + 1) ks)
  generalize ini (size + 1) ks = ws at hk hl
  by_cases hm : size ∈ ws
  · exact (wl_ris (size := size) (bad := none) (e := size + 1) (hands := hands) rfl 100 ws hk).2 size hm
  · have hlen := ris_len ws 1 size hk.so (fun x m => ⟨(hk.bd x m).1, by
      have := (hk.bd x m).2
      have : x ≠ size := fun z => hm (z ▸ m)
      omega⟩) (by omega)
    have hc : (ws.length : Int) < lim (size + 1) hands := by unfold lim; split <;> omega
    have e1' : wl size none (size + 1) hands 100 ws = wl size none (size + 1) hands 99 (nextW size none (size + 1) ws) := by
      show (if _ then _ else _) = _
      rw [if_pos hc]
    obtain ⟨r1, _⟩ := next_ris (size := size) (bad := none) hk rfl (by omega)
    rw [e1']
    refine (wl_ris (size := size) (bad := none) (e := size + 1) (hands := hands) rfl 99 _ r1).2 size ?_
    have hp : (nextW size none (size + 1) ws).Perm (ws ++ [pick size none (size + 1) ws]) := srt_perm _
    refine hp.mem_iff.mpr (List.mem_append_right _ ?_)
    have : pick size none (size + 1) ws = size := by
      unfold pick
      rw [if_pos]
      have : ws.any (· == size) = false := Bool.eq_false_iff.mpr fun z => by
        obtain ⟨y, my, ey⟩ := List.any_eq_true.mp z
        exact hm (beq_iff_eq.mp ey ▸ my)
      rw [this]; rfl
    rw [this]; exact List.mem_singleton.mpr rfl
section
variable {ns ls : List Int}
abbrev c4 : XTF := xAnd (xT (tV (e2 oGt (eVar 2) (eC (.int 0))))) (xV (x2 oEq (xM 1 takeG (xaCons (xP (eC (.int 2))) xaNil)) (xP (eC (.int 1)))))
abbrev b4 : SF := sSetX 3 (x2 oAdd (xP (eC (.int 1))) (xM 1 takeG (xaCons (xP (eVar 2)) xaNil)))
theorem a4 {R : List Slot} {size : Int} (hg : ∀ s ∈ some (.int size, .own) :: some (.non, .own) :: R, good s) : ∃ bad l', sIfX c4 b4 sNx (rT ns ls (some (.int size, .own) :: some (.non, .own) :: R)) = some (.nx (rT ns l' (some (.int size, .own) :: some (dB bad, .own) :: R))) := by
  have h0 : xT (tV (e2 oGt (eVar 2) (eC (.int 0)))) (rT ns ls (some (.int size, .own) :: some (.non, .own) :: R)) = some (decide (0 < size), rT ns ls (some (.int size, .own) :: some (.non, .own) :: R)) := rfl
  by_cases hs : 0 < size
  · rw [decide_eq_true hs] at h0
    obtain ⟨v1, l1, a1, b1, h1⟩ := tkF (ns := ns) (ls := ls) (f := eC (.int 2)) (m := 2) (t := .own) hg rfl (by omega)
    have hc := s_xV (s_x2 (op := oEq) (g := xP (eC (.int 1))) h1 xc (s_oEq))
    have hcc : c4 (rT ns ls (some (.int size, .own) :: some (.non, .own) :: R)) = some (v1 == 1, rT ns l1 (some (.int size, .own) :: some (.non, .own) :: R)) := by
      unfold c4 xAnd
      rw [h0]
      exact hc
    by_cases h : (v1 == 1) = true
    · rw [h] at hcc
      obtain ⟨v2, l2, a2, b2, h2⟩ := tkF (ns := ns) (ls := l1) (R := some (.int size, .own) :: some (.non, .own) :: R) (f := eVar 2) (m := size) (t := .sh [2]) hg rfl hs
      refine ⟨some (1 + v2), l2, ?_⟩
      rw [s_ifXT hcc]
      unfold b4
      rw [s_setX (one_plus h2)]; rfl
    · have h : (v1 == 1) = false := by simpa using h
      rw [h] at hcc
      exact ⟨none, l1, by rw [s_ifXF hcc]; rfl⟩
  · rw [decide_eq_false hs] at h0
    have hcc : c4 (rT ns ls (some (.int size, .own) :: some (.non, .own) :: R)) = some (false, rT ns ls (some (.int size, .own) :: some (.non, .own) :: R)) := by
      unfold c4 xAnd
      rw [h0]
    exact ⟨none, ls, by rw [s_ifXF hcc]; rfl⟩
theorem a7 {R : List Slot} {size sh c : Int} {s3 s6 : Slot} (h0 : 0 ≤ size) (h1 : size ≤ 60) (hs : 0 < sh) : ∃ ks : List Int, Ris (size + 1) ks ∧ ks.length < 64 ∧
    sSet 6 (eComp [none, some 5, some 4] (iR2 (eC (.int 1)) (e2 oAdd (eVar 2) (eC (.int 1)))) (gN 0) (tV (e2 oEq (eCall F_L_mix (aCons (eVar 1) (aCons (eVar 0) (aCons (eVar 2) aNil)))) (eC (.int 0)))) (eVar 0)) (rT ns ls (some (.int size, .own) :: s3 :: some (.int sh, .own) :: some (.int c, .own) :: s6 :: R)) =
      some (.nx (rT ns ls (some (.int size, .own) :: s3 :: some (.int sh, .own) :: some (.int c, .own) :: some (.lst (ks.map D.int), .own) :: R))) := by
  have hi : iR2 (eC (.int 1)) (e2 oAdd (eVar 2) (eC (.int 1))) (rT ns ls (some (.int size, .own) :: s3 :: some (.int sh, .own) :: some (.int c, .own) :: s6 :: R)) = some (((List.range size.toNat).map fun k : Nat => 1 + (k : Int)).map D.int, .own) := by
    show (if (small 1 && small (size + 1)) = true then some ((List.range (size + 1 - 1).toNat).map (fun k : Nat => D.int (1 + (k : Int))), Tag.own) else none) = _
    rw [if_pos (by unfold small; rw [decide_eq_true (show -(2 ^ 62) ≤ size + 1 by omega), decide_eq_true (show size + 1 < 2 ^ 62 by omega)]; rfl), show size + 1 - 1 = size by omega, List.map_map]; rfl
  have hb : Ris (size + 1) ((List.range size.toNat).map fun k : Nat => 1 + (k : Int)) := ⟨List.Pairwise.map _ (fun a b h => by omega) List.pairwise_lt_range, fun x m => by
    obtain ⟨k, mk, rfl⟩ := List.mem_map.mp m
    have := List.mem_range.mp mk
    omega⟩
  have hlen : ((List.range size.toNat).map fun k : Nat => 1 + (k : Int)).length < 64 := by rw [List.length_map, List.length_range]; omega
  generalize (List.range size.toNat).map (fun k : Nat => 1 + (k : Int)) = rs at hi hb hlen
  have hc := comp_ok (js := [none, some 5, some 4]) (g := gN 0) (tt := tV (e2 oEq (eCall F_L_mix (aCons (eVar 1) (aCons (eVar 0) (aCons (eVar 2) aNil)))) (eC (.int 0)))) (te := eVar 0) (k := kM c sh) hi (by rw [List.length_map]; unfold PySem.sizeLine; omega) (fun d m => by
    obtain ⟨i, mi, rfl⟩ := List.mem_map.mp m
    have hm := f_mix (c := c) (t := i) (m := sh) (by have := hb.bd i mi; omega) hs
    have ht : tV (e2 oEq (eCall F_L_mix (aCons (eVar 1) (aCons (eVar 0) (aCons (eVar 2) aNil)))) (eC (.int 0))) [some (.int i, .sh []), some (.int c, .sh []), some (.int sh, .sh [])] = some (mixI c i sh == 0) := by
      rw [s_tV, s_e2, s_call]
      show Ev.kV (k2 oEq ((F_L_mix [.int c, .int i, .int sh]).map _) _) = _
      rw [hm]; rfl
    show _ = some (if (mixI c i sh == 0) = true then some (D.int i) else none)
    by_cases h : (mixI c i sh == 0) = true
    · rw [if_pos h]
      exact compE_imm (ρ1 := [some (.int i, .sh []), some (.int c, .sh []), some (.int sh, .sh [])]) (tg := .sh []) rfl (by rw [ht, h]) rfl rfl
    · rw [if_neg h]
      exact compE_no (ρ1 := [some (.int i, .sh []), some (.int c, .sh []), some (.int sh, .sh [])]) rfl (by rw [ht, Bool.eq_false_iff.mpr h]))
  refine ⟨rs.filter fun i => mixI c i sh == 0, ⟨hb.so.filter _, fun x m => hb.bd x (List.mem_filter.mp m).1⟩, Nat.lt_of_le_of_lt (List.length_filter_le _ _) hlen, ?_⟩
  rw [s_set, hc, kM_map]; rfl
theorem a8 {R : List Slot} {s2 s3 s4 s5 s6 s7 : Slot} (hg : ∀ s ∈ s2 :: s3 :: s4 :: s5 :: s6 :: s7 :: R, good s) : ∃ v l', 1 ≤ v ∧ v ≤ 60 ∧ sSetX 7 (x2 oAdd (xP (eC (.int 1))) (xM 1 takeG (xaCons (xIx (xaCons (xP (eC (.int 60))) (xaCons (xP (eC (.int 8))) (xaCons (xP (eC (.int 8))) xaNil))) (xM 1 takeG (xaCons (xP (eC (.int 3))) xaNil))) xaNil))) (rT ns ls (s2 :: s3 :: s4 :: s5 :: s6 :: s7 :: R)) = some (.nx (rT ns l' (s2 :: s3 :: s4 :: s5 :: s6 :: some (.int v, .own) :: R))) := by
  obtain ⟨v1, l1, a1, b1, h1⟩ := tkF (ns := ns) (ls := ls) (f := eC (.int 3)) (m := 3) (t := .own) hg rfl (by omega)
  obtain ⟨n, hn, ha⟩ := atI_int (ns := [60, 8, 8]) (i := v1) a1 (by show v1 < 3; omega)
  have hn' : 0 < n ∧ n ≤ 60 := by simp only [List.mem_cons, List.not_mem_nil, or_false] at hn; rcases hn with rfl | rfl | rfl <;> omega
  obtain ⟨v2, l2, a2, b2, h2⟩ := tkX (ns := ns) (ls := ls) (l1 := l1) (m := n) hg (s_xIx (s_xa xc (s_xa xc (s_xa xc s_xa0))) h1 ha) hn'.1
  exact ⟨1 + v2, l2, by omega, by omega, by rw [s_setX (one_plus h2)]; rfl⟩
def rL (ns ls : List Int) (size : Int) (bad : Option Int) (s4 s5 : Slot) (ks : List Int) (hands e : Int) (t8 : Tag) (s9 s10 : Slot) : Rho := rT ns ls [some (.int size, .own), some (dB bad, .own), s4, s5, some (.lst (ks.map D.int), .own), some (.int hands, .own), some (.int e, t8), s9, s10]
abbrev k1' : SF := sIf (tOr2 (tNot1 (tV (e1 (oIsi "list") (eVar 10)))) (tNot1 (tV (eCall F_L_rises (aCons (eVar 10) (aCons (eVar 8) aNil)))))) (sRet (eC (.bl false))) sNx
abbrev k2' : SF := sIf (tV (e2 oNeP (eComp [none, some 10] (iSeqF (eVar 9)) (gN 0) (tV (e2 (oIn true) (eVar 0) (eVar 1))) (eVar 0)) (eLst aNil))) (sRet (eC (.bl false))) sNx
abbrev k3' : SF := sIf (tV (e2 oNe (e1 oLen (eVar 10)) (e2 oMax2 (e1 oLen (eVar 9)) (e2 oMin2 (eVar 7) (e2 oSub (eVar 8) (eC (.int 1))))))) (sRet (eC (.bl false))) sNx
abbrev k4' : SF := sIf (tAnd2 (tV (e2 oIsN (eVar 3) (eC .non))) (tAnd2 (tV (e2 oGt (eVar 2) (eC (.int 0)))) (tAnd2 (tV (e2 oLt (e1 oLen (eVar 9)) (eVar 7))) (tV (e2 (oIn true) (eVar 2) (eVar 10)))))) (sRet (eC (.bl false))) sNx
abbrev k5' : SF := sRet (eOr (e2 oEq (eVar 7) (eC (.int 1))) (eCall F_L_fewer (aCons (eVar 2) (aCons (eVar 3) (aCons (eVar 6) (aCons (eVar 7) (aCons (eVar 10) (aCons (eVar 8) aNil))))))))
abbrev tail : SF := sSeq (sSet 8 (eIf (tV (e2 oIsN (eVar 3) (eC .non))) (e2 oAdd (eVar 2) (eC (.int 1))) (eVar 3))) (sSeq (sSet 9 (eComp [none, some 8] (iSeqF (eVar 6)) (gN 0) (tV (e2 oLt (eVar 0) (eVar 1))) (eVar 0))) (sSeq (sSet 10 (eCall F_wanted_places (aCons (eVar 2) (aCons (eVar 3) (aCons (e1 oList (eVar 6)) (aCons (eVar 7) aNil)))))) (sSeq k1' (sSeq k2' (sSeq k3' (sSeq k4' k5'))))))
theorem the_tail {size hands : Int} {bad : Option Int} {s4 s5 s8 s9 s10 : Slot} {ks : List Int} (hk : Ris (size + 1) ks) (hl : ks.length < 64) (hh : 1 ≤ hands ∧ hands ≤ 60) :
    tail (rT ns ls [some (.int size, .own), some (dB bad, .own), s4, s5, some (.lst (ks.map D.int), .own), some (.int hands, .own), s8, s9, s10]) = some (.rt (.bl true)) := by
  obtain ⟨t8, q1⟩ : ∃ t8, sSet 8 (eIf (tV (e2 oIsN (eVar 3) (eC .non))) (e2 oAdd (eVar 2) (eC (.int 1))) (eVar 3)) (rT ns ls [some (.int size, .own), some (dB bad, .own), s4, s5, some (.lst (ks.map D.int), .own), some (.int hands, .own), s8, s9, s10]) = some (.nx (rL ns ls size bad s4 s5 ks hands (endOf size bad) t8 s9 s10)) := by
    have hc : tV (e2 oIsN (eVar 3) (eC .non)) (rT ns ls [some (.int size, .own), some (dB bad, .own), s4, s5, some (.lst (ks.map D.int), .own), some (.int hands, .own), s8, s9, s10]) = some bad.isNone := by
      show some (isNon (dB bad)) = _
      rw [isNon_dB]
    cases bad with
    | none => exact ⟨.own, by rw [s_set, s_eIfT (by rw [hc]; rfl)]; rfl⟩
    | some b => exact ⟨.sh [3], by rw [s_set, s_eIfF (by rw [hc]; rfl)]; rfl⟩
  have hki : Ris (endOf size bad) (ini (endOf size bad) ks) := ⟨hk.so.filter _, fun x m => ⟨(hk.bd x (List.mem_filter.mp m).1).1, of_decide_eq_true (List.mem_filter.mp m).2⟩⟩
  have q2 : sSet 9 (eComp [none, some 8] (iSeqF (eVar 6)) (gN 0) (tV (e2 oLt (eVar 0) (eVar 1))) (eVar 0)) (rL ns ls size bad s4 s5 ks hands (endOf size bad) t8 s9 s10) = some (.nx (rL ns ls size bad s4 s5 ks hands (endOf size bad) t8 (some (.lst ((ini (endOf size bad) ks).map D.int), .own)) s10)) := by
    rw [s_set, ini_comp (e := endOf size bad) (ks := ks) (t := .sh [6]) rfl rfl hl]; rfl
  have hwp := f_wantedL (size := size) (bad := bad) (ks := ks) (hands := hands) hh.2 hl
  have hfew : hands ≠ 1 → F_L_fewer [.int size, dB bad, .lst (ks.map D.int), .int hands, .lst ((W size bad ks hands).map D.int), .int (endOf size bad)] = some (.bl true) := fun z => f_fewer (by omega) hl hki
  obtain ⟨wr, wsub⟩ := wl_ris (size := size) (bad := bad) (hands := hands) rfl 100 _ hki
  have wlen := wl_lenE (size := size) (bad := bad) (e := endOf size bad) hands 100 (ini (endOf size bad) ks) (by omega)
  have hsz : bad = none → 0 < size → ((ini (endOf size bad) ks).length : Int) < hands → size ∈ W size bad ks hands := fun z hs hlt => by
    subst z
    exact size_in hki hs hlt
  have hil : (ini (endOf size bad) ks).length < 64 := Nat.lt_of_le_of_lt (List.length_filter_le _ _) hl
  change Ris (endOf size bad) (W size bad ks hands) at wr
  change ∀ x ∈ ini (endOf size bad) ks, x ∈ W size bad ks hands at wsub
  change ((W size bad ks hands).length : Int) = _ at wlen
  generalize W size bad ks hands = fs at hwp hfew wr wsub wlen hsz
  generalize ini (endOf size bad) ks = hd at q2 wsub wlen hsz hil
  generalize endOf size bad = e at q1 q2 hfew wr wlen
  have q3 : sSet 10 (eCall F_wanted_places (aCons (eVar 2) (aCons (eVar 3) (aCons (e1 oList (eVar 6)) (aCons (eVar 7) aNil))))) (rL ns ls size bad s4 s5 ks hands e t8 (some (.lst (hd.map D.int), .own)) s10) = some (.nx (rL ns ls size bad s4 s5 ks hands e t8 (some (.lst (hd.map D.int), .own)) (some (.lst (fs.map D.int), .own)))) := by
    have v2 : eVar 2 (rL ns ls size bad s4 s5 ks hands e t8 (some (.lst (hd.map D.int), .own)) s10) = some (.int size, .sh [2]) := rfl
    have v3 : eVar 3 (rL ns ls size bad s4 s5 ks hands e t8 (some (.lst (hd.map D.int), .own)) s10) = some (dB bad, .sh [3]) := rfl
    have v6 : eVar 6 (rL ns ls size bad s4 s5 ks hands e t8 (some (.lst (hd.map D.int), .own)) s10) = some (.lst (ks.map D.int), .sh [6]) := rfl
    have v7 : eVar 7 (rL ns ls size bad s4 s5 ks hands e t8 (some (.lst (hd.map D.int), .own)) s10) = some (.int hands, .sh [7]) := rfl
    rw [s_set, s_call, s_aCons, s_aCons, s_aCons, s_aCons, s_e1, v2, v3, v6, v7, s_k1, s_listI, s_map, s_aNil, s_consK, s_consK, s_consK, s_consK, s_bind]
    simp only [List.map_cons, List.map_nil]
    rw [hwp]; rfl
  have v2 : eVar 2 (rL ns ls size bad s4 s5 ks hands e t8 (some (.lst (hd.map D.int), .own)) (some (.lst (fs.map D.int), .own))) = some (.int size, .sh [2]) := rfl
  have v3 : eVar 3 (rL ns ls size bad s4 s5 ks hands e t8 (some (.lst (hd.map D.int), .own)) (some (.lst (fs.map D.int), .own))) = some (dB bad, .sh [3]) := rfl
  have v6 : eVar 6 (rL ns ls size bad s4 s5 ks hands e t8 (some (.lst (hd.map D.int), .own)) (some (.lst (fs.map D.int), .own))) = some (.lst (ks.map D.int), .sh [6]) := rfl
  have v7 : eVar 7 (rL ns ls size bad s4 s5 ks hands e t8 (some (.lst (hd.map D.int), .own)) (some (.lst (fs.map D.int), .own))) = some (.int hands, .sh [7]) := rfl
  have v8 : eVar 8 (rL ns ls size bad s4 s5 ks hands e t8 (some (.lst (hd.map D.int), .own)) (some (.lst (fs.map D.int), .own))) = some (.int e, tagOf 8 t8) := rfl
  have v9 : eVar 9 (rL ns ls size bad s4 s5 ks hands e t8 (some (.lst (hd.map D.int), .own)) (some (.lst (fs.map D.int), .own))) = some (.lst (hd.map D.int), .sh [9]) := rfl
  have v10 : eVar 10 (rL ns ls size bad s4 s5 ks hands e t8 (some (.lst (hd.map D.int), .own)) (some (.lst (fs.map D.int), .own))) = some (.lst (fs.map D.int), .sh [10]) := rfl
  have r1 : k1' (rL ns ls size bad s4 s5 ks hands e t8 (some (.lst (hd.map D.int), .own)) (some (.lst (fs.map D.int), .own))) = some (.nx (rL ns ls size bad s4 s5 ks hands e t8 (some (.lst (hd.map D.int), .own)) (some (.lst (fs.map D.int), .own)))) := by
    have c1 : tNot1 (tV (e1 (oIsi "list") (eVar 10))) (rL ns ls size bad s4 s5 ks hands e t8 (some (.lst (hd.map D.int), .own)) (some (.lst (fs.map D.int), .own))) = some false := rfl
    have c2 : tNot1 (tV (eCall F_L_rises (aCons (eVar 10) (aCons (eVar 8) aNil)))) (rL ns ls size bad s4 s5 ks hands e t8 (some (.lst (hd.map D.int), .own)) (some (.lst (fs.map D.int), .own))) = some false := by
      rw [s_not, s_tV, s_call, s_aCons, s_aCons, v10, v8, s_aNil, s_consK, s_consK, s_bind]
      simp only [List.map_cons, List.map_nil]
      rw [f_rises wr]; rfl
    unfold k1'
    rw [s_if, s_orF c1, c2, s_ifF]; rfl
  have r2 : k2' (rL ns ls size bad s4 s5 ks hands e t8 (some (.lst (hd.map D.int), .own)) (some (.lst (fs.map D.int), .own))) = some (.nx (rL ns ls size bad s4 s5 ks hands e t8 (some (.lst (hd.map D.int), .own)) (some (.lst (fs.map D.int), .own)))) := by
    have hcm := not_in (js := [none, some 10]) (it := iSeqF (eVar 9)) (ρ := rL ns ls size bad s4 s5 ks hands e t8 (some (.lst (hd.map D.int), .own)) (some (.lst (fs.map D.int), .own))) (ks := hd) (ws := fs) (t := .sh [9]) rfl hil rfl
    have hemp : (hd.filter fun i => !(fs.any (· == i))) = [] := List.filter_eq_nil_iff.mpr fun x m => by
      have : fs.any (· == x) = true := List.any_eq_true.mpr ⟨x, wsub x m, beq_self_eq_true x⟩
      rw [this]; decide
    rw [hemp] at hcm
    have hl0 : eLst aNil (rL ns ls size bad s4 s5 ks hands e t8 (some (.lst (hd.map D.int), .own)) (some (.lst (fs.map D.int), .own))) = some (.lst (([] : List Int).map D.int), .own) := rfl
    unfold k2'
    rw [s_if, s_tV, s_e2, hcm, hl0, s_k2, s_nePR (lay_ints [])]; rfl
  have r3 : k3' (rL ns ls size bad s4 s5 ks hands e t8 (some (.lst (hd.map D.int), .own)) (some (.lst (fs.map D.int), .own))) = some (.nx (rL ns ls size bad s4 s5 ks hands e t8 (some (.lst (hd.map D.int), .own)) (some (.lst (fs.map D.int), .own)))) := by
    have hc : tV (e2 oNe (e1 oLen (eVar 10)) (e2 oMax2 (e1 oLen (eVar 9)) (e2 oMin2 (eVar 7) (e2 oSub (eVar 8) (eC (.int 1)))))) (rL ns ls size bad s4 s5 ks hands e t8 (some (.lst (hd.map D.int), .own)) (some (.lst (fs.map D.int), .own))) = some false := by
      show some (!(((fs.map D.int).length : Int) == (if (if e - 1 < hands then e - 1 else hands) > ((hd.map D.int).length : Int) then (if e - 1 < hands then e - 1 else hands) else ((hd.map D.int).length : Int)))) = _
      rw [List.length_map, List.length_map]
      have : (fs.length : Int) = (if (if e - 1 < hands then e - 1 else hands) > (hd.length : Int) then (if e - 1 < hands then e - 1 else hands) else (hd.length : Int)) := wlen
      rw [beq_iff_eq.mpr this]; rfl
    unfold k3'
    rw [s_if, hc, s_ifF]; rfl
  have r4 : k4' (rL ns ls size bad s4 s5 ks hands e t8 (some (.lst (hd.map D.int), .own)) (some (.lst (fs.map D.int), .own))) = some (.nx (rL ns ls size bad s4 s5 ks hands e t8 (some (.lst (hd.map D.int), .own)) (some (.lst (fs.map D.int), .own)))) := by
    have c1 : tV (e2 oIsN (eVar 3) (eC .non)) (rL ns ls size bad s4 s5 ks hands e t8 (some (.lst (hd.map D.int), .own)) (some (.lst (fs.map D.int), .own))) = some bad.isNone := by
      show some (isNon (dB bad)) = _
      rw [isNon_dB]
    have c2 : tV (e2 oGt (eVar 2) (eC (.int 0))) (rL ns ls size bad s4 s5 ks hands e t8 (some (.lst (hd.map D.int), .own)) (some (.lst (fs.map D.int), .own))) = some (decide (0 < size)) := rfl
    have c3 : tV (e2 oLt (e1 oLen (eVar 9)) (eVar 7)) (rL ns ls size bad s4 s5 ks hands e t8 (some (.lst (hd.map D.int), .own)) (some (.lst (fs.map D.int), .own))) = some (decide ((hd.length : Int) < hands)) := by
      show some (decide (((hd.map D.int).length : Int) < hands)) = _
      rw [List.length_map]
    have c4' : tV (e2 (oIn true) (eVar 2) (eVar 10)) (rL ns ls size bad s4 s5 ks hands e t8 (some (.lst (hd.map D.int), .own)) (some (.lst (fs.map D.int), .own))) = some (!(fs.any (· == size))) := by
      rw [s_tV, s_e2, v2, v10, s_k2, s_oIn]; rfl
    have hall := s_and2 c1 (s_and2 c2 (s_and2 c3 c4'))
    have hfalse : (bad.isNone && (decide (0 < size) && (decide ((hd.length : Int) < hands) && !(fs.any (· == size))))) = false := by
      refine Bool.eq_false_iff.mpr fun z => ?_
      obtain ⟨z1, z⟩ := (Bool.and_eq_true _ _).mp z
      obtain ⟨z2, z⟩ := (Bool.and_eq_true _ _).mp z
      obtain ⟨z3, z4⟩ := (Bool.and_eq_true _ _).mp z
      have hb : bad = none := by cases bad with | none => rfl | some b => cases z1
      have := hsz hb (of_decide_eq_true z2) (of_decide_eq_true z3)
      have : fs.any (· == size) = true := List.any_eq_true.mpr ⟨size, this, beq_self_eq_true size⟩
      rw [this] at z4
      cases z4
    rw [hfalse] at hall
    unfold k4'
    rw [s_if, hall, s_ifF]; rfl
  have r5 : k5' (rL ns ls size bad s4 s5 ks hands e t8 (some (.lst (hd.map D.int), .own)) (some (.lst (fs.map D.int), .own))) = some (.rt (.bl true)) := by
    have c1 : e2 oEq (eVar 7) (eC (.int 1)) (rL ns ls size bad s4 s5 ks hands e t8 (some (.lst (hd.map D.int), .own)) (some (.lst (fs.map D.int), .own))) = some (.bl (hands == 1), .own) := rfl
    by_cases h : hands = 1
    · have hb : (hands == 1) = true := by rw [h]; rfl
      rw [hb] at c1
      unfold k5'
      rw [s_ret]
      unfold eOr
      rw [c1]; rfl
    · have hb : (hands == 1) = false := beq_eq_false_iff_ne.mpr h
      rw [hb] at c1
      have w : eCall F_L_fewer (aCons (eVar 2) (aCons (eVar 3) (aCons (eVar 6) (aCons (eVar 7) (aCons (eVar 10) (aCons (eVar 8) aNil)))))) (rL ns ls size bad s4 s5 ks hands e t8 (some (.lst (hd.map D.int), .own)) (some (.lst (fs.map D.int), .own))) = some (.bl true, .own) := by
        rw [s_call, s_aCons, s_aCons, s_aCons, s_aCons, s_aCons, s_aCons, v2, v3, v6, v7, v10, v8, s_aNil, s_consK, s_consK, s_consK, s_consK, s_consK, s_consK, s_bind]
        simp only [List.map_cons, List.map_nil]
        rw [hfew h]; rfl
      unfold k5'
      rw [s_ret]
      unfold eOr
      rw [c1]
      dsimp only
      rw [w]; rfl
  unfold tail
  rw [s_seq, q1, s_seqN, s_seq, q2, s_seqN, s_seq, q3, s_seqN, s_seq, r1, s_seqN, s_seq, r2, s_seqN, s_seq, r3, s_seqN, s_seq, r4, s_seqN, r5]
end
theorem f_law {ns : List Int} (hn : ns.length ≤ 63) : F_law [dI ns] = some (.bl true) := by
  refine runF_rt rfl ?_
  show B_law [some (dI ns, .sh []), none, none, none, none, none, none, none, none, none, none] = _
  have ow := good_own
  have gs : ∀ {R : List Slot}, (∀ s ∈ R, good s) → ∀ {a : Slot}, good a → ∀ s ∈ a :: R, good s := fun h a ha s m => by
    rcases List.mem_cons.mp m with rfl | m
    · exact ha
    · exact h s m
  have g0 : ∀ s ∈ ([] : List Slot), good s := fun s m => by cases m
  have gn := good_none
  have q1 : sSet 1 (e1 oRev (e1 (oCut none (some 200)) (eVar 0))) [some (dI ns, .sh []), none, none, none, none, none, none, none, none, none, none] = some (.nx (rT ns ns.reverse [none, none, none, none, none, none, none, none, none])) := by
    have v0 : eVar 0 [some (dI ns, .sh []), none, none, none, none, none, none, none, none, none, none] = some (dI ns, .sh []) := rfl
    rw [s_set, s_e1, s_e1, v0, s_k1, cut200 hn, s_map, s_k1, s_rev]; rfl
  obtain ⟨size, l2, z0, z1, h2⟩ := tkF (ns := ns) (ls := ns.reverse) (R := [none, none, none, none, none, none, none, none, none]) (f := eC (.int 61)) (m := 61) (t := .own) (gs (gs (gs (gs (gs (gs (gs (gs (gs g0 gn) gn) gn) gn) gn) gn) gn) gn) gn) rfl (by omega)
  have q2 : sSetX 2 (xM 1 takeG (xaCons (xP (eC (.int 61))) xaNil)) (rT ns ns.reverse [none, none, none, none, none, none, none, none, none]) = some (.nx (rT ns l2 [some (.int size, .own), none, none, none, none, none, none, none, none])) := by rw [s_setX h2]; rfl
  have q3 : sSet 3 (eC .non) (rT ns l2 [some (.int size, .own), none, none, none, none, none, none, none, none]) = some (.nx (rT ns l2 [some (.int size, .own), some (.non, .own), none, none, none, none, none, none, none])) := rfl
  obtain ⟨bad, l4, q4⟩ := a4 (ns := ns) (ls := l2) (size := size) (R := [none, none, none, none, none, none, none]) (gs (gs (gs (gs (gs (gs (gs (gs (gs g0 gn) gn) gn) gn) gn) gn) gn) (ow _)) (ow _))
  obtain ⟨v5, l5, a5, b5, h5⟩ := tkF (ns := ns) (ls := l4) (R := [some (.int size, .own), some (dB bad, .own), none, none, none, none, none, none, none]) (f := eC (.int 8)) (m := 8) (t := .own) (gs (gs (gs (gs (gs (gs (gs (gs (gs g0 gn) gn) gn) gn) gn) gn) gn) (ow _)) (ow _)) rfl (by omega)
  have q5 : sSetX 4 (x2 oAdd (xP (eC (.int 1))) (xM 1 takeG (xaCons (xP (eC (.int 8))) xaNil))) (rT ns l4 [some (.int size, .own), some (dB bad, .own), none, none, none, none, none, none, none]) = some (.nx (rT ns l5 [some (.int size, .own), some (dB bad, .own), some (.int (1 + v5), .own), none, none, none, none, none, none])) := by rw [s_setX (one_plus h5)]; rfl
  obtain ⟨c, l6, a6, b6, h6⟩ := tkF (ns := ns) (ls := l5) (R := [some (.int size, .own), some (dB bad, .own), some (.int (1 + v5), .own), none, none, none, none, none, none]) (f := e2 oPow (eC (.int 10)) (eC (.int 12))) (m := 10 ^ 12) (t := .own) (gs (gs (gs (gs (gs (gs (gs (gs (gs g0 gn) gn) gn) gn) gn) gn) (ow _)) (ow _)) (ow _)) rfl (by decide)
  have q6 : sSetX 5 (xM 1 takeG (xaCons (xP (e2 oPow (eC (.int 10)) (eC (.int 12)))) xaNil)) (rT ns l5 [some (.int size, .own), some (dB bad, .own), some (.int (1 + v5), .own), none, none, none, none, none, none]) = some (.nx (rT ns l6 [some (.int size, .own), some (dB bad, .own), some (.int (1 + v5), .own), some (.int c, .own), none, none, none, none, none])) := by rw [s_setX h6]; rfl
  obtain ⟨ks, k1, k2, q7⟩ := a7 (ns := ns) (ls := l6) (size := size) (sh := 1 + v5) (c := c) (s3 := some (dB bad, .own)) (s6 := none) (R := [none, none, none, none]) z0 (by omega) (by omega)
  obtain ⟨hands, l8, hh1, hh2, q8⟩ := a8 (ns := ns) (ls := l6) (R := [none, none, none]) (s2 := some (.int size, .own)) (s3 := some (dB bad, .own)) (s4 := some (.int (1 + v5), .own)) (s5 := some (.int c, .own)) (s6 := some (.lst (ks.map D.int), .own)) (s7 := none) (gs (gs (gs (gs (gs (gs (gs (gs (gs g0 gn) gn) gn) gn) (ow _)) (ow _)) (ow _)) (ow _)) (ow _))
  have ht := the_tail (ns := ns) (ls := l8) (size := size) (hands := hands) (bad := bad) (s4 := some (.int (1 + v5), .own)) (s5 := some (.int c, .own)) (s8 := none) (s9 := none) (s10 := none) k1 k2 ⟨hh1, hh2⟩
  unfold B_law
  rw [s_seq, q1, s_seqN, s_seq, q2, s_seqN, s_seq, q3, s_seqN, s_seq, q4, s_seqN, s_seq, q5, s_seqN, s_seq, q6, s_seqN, s_seq, q7, s_seqN, s_seq, q8, s_seqN]
  exact ht
end K36
namespace K36
open PySem L2 L2.Ev
theorem all_mk {l : PySem.W.OpenLaw} {w : World} {K : PySem.W.Frag} {h : Heap} {mg : Str → Option Value} {fa f_L_take f_L_mix f_middle_of_gap f_wanted_places f_L_whole f_L_rises f_L_widest f_L_fewer f_law : Addr} (X : K.In h) (G : h.Ns mainGlobals mg) (hfa : mg "law" = some (.ref fa))
    {od_L_take an_L_take od_L_mix an_L_mix od_middle_of_gap an_middle_of_gap od_wanted_places an_wanted_places od_L_whole an_L_whole od_L_rises an_L_rises od_L_widest an_L_widest od_L_fewer an_L_fewer od_law an_law : Option Addr} {sl_L_take sl_L_mix sl_middle_of_gap sl_wanted_places sl_L_whole sl_L_rises sl_L_widest sl_L_fewer sl_law : Array (Option Value)} {oc_L_take kV_L_take dc_L_take pm_L_take cd_L_take ct_L_take oc_L_mix kV_L_mix dc_L_mix pm_L_mix cd_L_mix ct_L_mix oc_middle_of_gap kV_middle_of_gap dc_middle_of_gap pm_middle_of_gap cd_middle_of_gap ct_middle_of_gap oc_wanted_places kV_wanted_places dc_wanted_places pm_wanted_places cd_wanted_places ct_wanted_places oc_L_whole kV_L_whole dc_L_whole pm_L_whole cd_L_whole ct_L_whole oc_L_rises kV_L_rises dc_L_rises pm_L_rises cd_L_rises ct_L_rises oc_L_widest kV_L_widest dc_L_widest pm_L_widest cd_L_widest ct_L_widest oc_L_fewer kV_L_fewer dc_L_fewer pm_L_fewer cd_L_fewer ct_L_fewer oc_law kV_law dc_law pm_law cd_law ct_law : Value}
    (a_L_take : PySem.W.nsIn K mainGlobals "_law_take" = some (some (.ref f_L_take))) (l_L_take : K.lookup f_L_take = some ⟨oc_L_take, od_L_take, .func (PySem.W.fnOf "_law_take" "_law_take" (defArgs s_L_take) (defBody s_L_take) (defScope s_L_take) .none kV_L_take dc_L_take pm_L_take an_L_take cd_L_take ct_L_take), sl_L_take⟩) (c_L_take : PySem.W.codeIn K cd_L_take "_law_take" = true) (k_L_take : PySem.W.keepIn K (.ref f_L_take) = true)
    (a_L_mix : PySem.W.nsIn K mainGlobals "_law_mix" = some (some (.ref f_L_mix))) (l_L_mix : K.lookup f_L_mix = some ⟨oc_L_mix, od_L_mix, .func (PySem.W.fnOf "_law_mix" "_law_mix" (defArgs s_L_mix) (defBody s_L_mix) (defScope s_L_mix) .none kV_L_mix dc_L_mix pm_L_mix an_L_mix cd_L_mix ct_L_mix), sl_L_mix⟩) (c_L_mix : PySem.W.codeIn K cd_L_mix "_law_mix" = true) (k_L_mix : PySem.W.keepIn K (.ref f_L_mix) = true)
    (a_middle_of_gap : PySem.W.nsIn K mainGlobals "middle_of_gap" = some (some (.ref f_middle_of_gap))) (l_middle_of_gap : K.lookup f_middle_of_gap = some ⟨oc_middle_of_gap, od_middle_of_gap, .func (PySem.W.fnOf "middle_of_gap" "middle_of_gap" (defArgs s_middle_of_gap) (defBody s_middle_of_gap) (defScope s_middle_of_gap) .none kV_middle_of_gap dc_middle_of_gap pm_middle_of_gap an_middle_of_gap cd_middle_of_gap ct_middle_of_gap), sl_middle_of_gap⟩) (c_middle_of_gap : PySem.W.codeIn K cd_middle_of_gap "middle_of_gap" = true) (k_middle_of_gap : PySem.W.keepIn K (.ref f_middle_of_gap) = true)
    (a_wanted_places : PySem.W.nsIn K mainGlobals "wanted_places" = some (some (.ref f_wanted_places))) (l_wanted_places : K.lookup f_wanted_places = some ⟨oc_wanted_places, od_wanted_places, .func (PySem.W.fnOf "wanted_places" "wanted_places" (defArgs s_wanted_places) (defBody s_wanted_places) (defScope s_wanted_places) .none kV_wanted_places dc_wanted_places pm_wanted_places an_wanted_places cd_wanted_places ct_wanted_places), sl_wanted_places⟩) (c_wanted_places : PySem.W.codeIn K cd_wanted_places "wanted_places" = true) (k_wanted_places : PySem.W.keepIn K (.ref f_wanted_places) = true)
    (a_L_whole : PySem.W.nsIn K mainGlobals "_law_whole" = some (some (.ref f_L_whole))) (l_L_whole : K.lookup f_L_whole = some ⟨oc_L_whole, od_L_whole, .func (PySem.W.fnOf "_law_whole" "_law_whole" (defArgs s_L_whole) (defBody s_L_whole) (defScope s_L_whole) .none kV_L_whole dc_L_whole pm_L_whole an_L_whole cd_L_whole ct_L_whole), sl_L_whole⟩) (c_L_whole : PySem.W.codeIn K cd_L_whole "_law_whole" = true) (k_L_whole : PySem.W.keepIn K (.ref f_L_whole) = true)
    (a_L_rises : PySem.W.nsIn K mainGlobals "_law_rises" = some (some (.ref f_L_rises))) (l_L_rises : K.lookup f_L_rises = some ⟨oc_L_rises, od_L_rises, .func (PySem.W.fnOf "_law_rises" "_law_rises" (defArgs s_L_rises) (defBody s_L_rises) (defScope s_L_rises) .none kV_L_rises dc_L_rises pm_L_rises an_L_rises cd_L_rises ct_L_rises), sl_L_rises⟩) (c_L_rises : PySem.W.codeIn K cd_L_rises "_law_rises" = true) (k_L_rises : PySem.W.keepIn K (.ref f_L_rises) = true)
    (a_L_widest : PySem.W.nsIn K mainGlobals "_law_widest" = some (some (.ref f_L_widest))) (l_L_widest : K.lookup f_L_widest = some ⟨oc_L_widest, od_L_widest, .func (PySem.W.fnOf "_law_widest" "_law_widest" (defArgs s_L_widest) (defBody s_L_widest) (defScope s_L_widest) .none kV_L_widest dc_L_widest pm_L_widest an_L_widest cd_L_widest ct_L_widest), sl_L_widest⟩) (c_L_widest : PySem.W.codeIn K cd_L_widest "_law_widest" = true) (k_L_widest : PySem.W.keepIn K (.ref f_L_widest) = true)
    (a_L_fewer : PySem.W.nsIn K mainGlobals "_law_fewer" = some (some (.ref f_L_fewer))) (l_L_fewer : K.lookup f_L_fewer = some ⟨oc_L_fewer, od_L_fewer, .func (PySem.W.fnOf "_law_fewer" "_law_fewer" (defArgs s_L_fewer) (defBody s_L_fewer) (defScope s_L_fewer) .none kV_L_fewer dc_L_fewer pm_L_fewer an_L_fewer cd_L_fewer ct_L_fewer), sl_L_fewer⟩) (c_L_fewer : PySem.W.codeIn K cd_L_fewer "_law_fewer" = true) (k_L_fewer : PySem.W.keepIn K (.ref f_L_fewer) = true)
    (a_law : PySem.W.nsIn K mainGlobals "law" = some (some (.ref f_law))) (l_law : K.lookup f_law = some ⟨oc_law, od_law, .func (PySem.W.fnOf "law" "law" (defArgs s_law) (defBody s_law) (defScope s_law) .none kV_law dc_law pm_law an_law cd_law ct_law), sl_law⟩) (c_law : PySem.W.codeIn K cd_law "law" = true) (k_law : PySem.W.keepIn K (.ref f_law) = true)
    (z_bool : PySem.W.nsIn K mainGlobals "bool" = some none)
    (z_int : PySem.W.nsIn K mainGlobals "int" = some none)
    (z_isinstance : PySem.W.nsIn K mainGlobals "isinstance" = some none)
    (z_len : PySem.W.nsIn K mainGlobals "len" = some none)
    (z_list : PySem.W.nsIn K mainGlobals "list" = some none)
    (z_max : PySem.W.nsIn K mainGlobals "max" = some none)
    (z_min : PySem.W.nsIn K mainGlobals "min" = some none)
    (z_range : PySem.W.nsIn K mainGlobals "range" = some none)
    (z_reversed : PySem.W.nsIn K mainGlobals "reversed" = some none)
    (z_sorted : PySem.W.nsIn K mainGlobals "sorted" = some none)
    (z_zip : PySem.W.nsIn K mainGlobals "zip" = some none)
    : ∃ fd : FuncData, (∀ (s : Shared) (v : Value), BindsTo s fd ⟨[v], []⟩ [("_law_script", v)]) ∧ ∀ base : Heap, K.In base → base.Ns mainGlobals mg → FnOk l.prog w K mg base CX0 4 fa fd ["_law_script"] (spF K F_law) := by
  have e := hfa.symm.trans (PySem.W.mg_of X G a_law)
  cases e
  have g_bool := PySem.W.mg_none_of X G z_bool
  have g_int := PySem.W.mg_none_of X G z_int
  have g_isinstance := PySem.W.mg_none_of X G z_isinstance
  have g_len := PySem.W.mg_none_of X G z_len
  have g_list := PySem.W.mg_none_of X G z_list
  have g_max := PySem.W.mg_none_of X G z_max
  have g_min := PySem.W.mg_none_of X G z_min
  have g_range := PySem.W.mg_none_of X G z_range
  have g_reversed := PySem.W.mg_none_of X G z_reversed
  have g_sorted := PySem.W.mg_none_of X G z_sorted
  have g_zip := PySem.W.mg_none_of X G z_zip
  have F_L_take' := fun_mk (st := s_L_take) l_L_take c_L_take k_L_take
  have m_L_take := PySem.W.mg_of X G a_L_take
  have b_L_take := F_L_take'.binds (ps := ["_law_left", "_law_many"]) fun _ _ _ _ _ _ us hl => match us, hl with | [_, _], _ => rfl
  have F_L_mix' := fun_mk (st := s_L_mix) l_L_mix c_L_mix k_L_mix
  have m_L_mix := PySem.W.mg_of X G a_L_mix
  have b_L_mix := F_L_mix'.binds (ps := ["_law_cell", "_law_turn", "_law_many"]) fun _ _ _ _ _ _ us hl => match us, hl with | [_, _, _], _ => rfl
  have F_middle_of_gap' := fun_mk (st := s_middle_of_gap) l_middle_of_gap c_middle_of_gap k_middle_of_gap
  have m_middle_of_gap := PySem.W.mg_of X G a_middle_of_gap
  have b_middle_of_gap := F_middle_of_gap'.binds (ps := ["fence"]) fun _ _ _ _ _ _ us hl => match us, hl with | [_], _ => rfl
  have F_wanted_places' := fun_mk (st := s_wanted_places) l_wanted_places c_wanted_places k_wanted_places
  have m_wanted_places := PySem.W.mg_of X G a_wanted_places
  have b_wanted_places := F_wanted_places'.binds (ps := ["size", "bad", "kept", "hands"]) fun _ _ _ _ _ _ us hl => match us, hl with | [_, _, _, _], _ => rfl
  have F_L_whole' := fun_mk (st := s_L_whole) l_L_whole c_L_whole k_L_whole
  have m_L_whole := PySem.W.mg_of X G a_L_whole
  have b_L_whole := F_L_whole'.binds (ps := ["_law_found"]) fun _ _ _ _ _ _ us hl => match us, hl with | [_], _ => rfl
  have F_L_rises' := fun_mk (st := s_L_rises) l_L_rises c_L_rises k_L_rises
  have m_L_rises := PySem.W.mg_of X G a_L_rises
  have b_L_rises := F_L_rises'.binds (ps := ["_law_found", "_law_end"]) fun _ _ _ _ _ _ us hl => match us, hl with | [_, _], _ => rfl
  have F_L_widest' := fun_mk (st := s_L_widest) l_L_widest c_L_widest k_L_widest
  have m_L_widest := PySem.W.mg_of X G a_L_widest
  have b_L_widest := F_L_widest'.binds (ps := ["_law_places", "_law_end"]) fun _ _ _ _ _ _ us hl => match us, hl with | [_, _], _ => rfl
  have F_L_fewer' := fun_mk (st := s_L_fewer) l_L_fewer c_L_fewer k_L_fewer
  have m_L_fewer := PySem.W.mg_of X G a_L_fewer
  have b_L_fewer := F_L_fewer'.binds (ps := ["_law_size", "_law_bad", "_law_kept", "_law_hands", "_law_found", "_law_end"]) fun _ _ _ _ _ _ us hl => match us, hl with | [_, _, _, _, _, _], _ => rfl
  have F_law' := fun_mk (st := s_law) l_law c_law k_law
  refine ⟨PySem.W.fnOf "law" "law" (defArgs s_law) (defBody s_law) (defScope s_law) .none kV_law dc_law pm_law an_law cd_law ct_law, fun s v => .of_eq rfl, fun base _ _ => ?_⟩
  have G_L_take := ok_L_take (P := l.prog) (w := w) (mg := mg) (base := base) g_len F_L_take'
  have G_L_mix := ok_L_mix (P := l.prog) (w := w) (mg := mg) (base := base) F_L_mix'
  have G_middle_of_gap := ok_middle_of_gap (P := l.prog) (w := w) (mg := mg) (base := base) g_zip F_middle_of_gap'
  have G_wanted_places := ok_wanted_places (P := l.prog) (w := w) (mg := mg) (base := base) g_len g_min g_sorted G_middle_of_gap m_middle_of_gap k_middle_of_gap b_middle_of_gap F_wanted_places'
  have G_L_whole := ok_L_whole (P := l.prog) (w := w) (mg := mg) (base := base) g_bool g_int g_isinstance F_L_whole'
  have G_L_rises := ok_L_rises (P := l.prog) (w := w) (mg := mg) (base := base) G_L_whole m_L_whole k_L_whole b_L_whole F_L_rises'
  have G_L_widest := ok_L_widest (P := l.prog) (w := w) (mg := mg) (base := base) g_len g_max g_range F_L_widest'
  have G_L_fewer := ok_L_fewer (P := l.prog) (w := w) (mg := mg) (base := base) g_len g_list G_wanted_places m_wanted_places k_wanted_places b_wanted_places G_L_rises m_L_rises k_L_rises b_L_rises G_L_widest m_L_widest k_L_widest b_L_widest F_L_fewer'
  exact ok_law g_isinstance g_len g_list g_max g_min g_range g_reversed G_L_take m_L_take k_L_take b_L_take G_L_mix m_L_mix k_L_mix b_L_mix G_wanted_places m_wanted_places k_wanted_places b_wanted_places G_L_rises m_L_rises k_L_rises b_L_rises G_L_fewer m_L_fewer k_L_fewer b_L_fewer F_law'
theorem walk {l : PySem.W.OpenLaw} {q : Program} {loose : List Str} {XP : (Str → Option Value) → Heap → Prop} {YP : World → Heap → Prop} {d : DefRec} {K : Params → PySem.W.Frag} (hn : l.most = some 63) (hdf : d.params.defaults = [])
    (hY : ∀ (w : World) (h : Heap), YP w h → (K w.params).In h)
    (F : ∀ (w : World) (mg : Str → Option Value) (fa : Addr) (h : Heap), (K w.params).In h → h.Ns mainGlobals mg → mg d.name = some (.ref fa) →
      ∃ fd : FuncData, (∀ (s : Shared) (u : Value), BindsTo s fd ⟨[u], []⟩ [("_law_script", u)]) ∧ ∀ base : Heap, (K w.params).In base → base.Ns mainGlobals mg → FnOk l.prog w (K w.params) mg base CX0 4 fa fd ["_law_script"] (spF (K w.params) F_law)) :
    PySem.W.WalkO q loose XP YP l.row.toRowW d [] (fun f vs => PySem.call f vs) :=
  L2.walk_of (n := 63) (k := 4) (x := "_law_script") (CX := fun _ => CX0) (sp := fun w => spF (K w.params) F_law) hn (by decide) hdf ⟨rfl, by decide, by decide, rfl⟩ hY F (fun w H a ns hl hO hS => by
    have hz : Frz (K w.params) H a (ns.map V.int) := by
      rcases hS with (h | h) | h
      · rcases hO a with z | ⟨o, xs, z⟩ <;> rw [z] at h <;> cases h
      · exact .inl h
      · exact .inr h
    refine ⟨[dI ns], [] ++ [], .bl true, .cons (.lsf hz (reps_ints ns)) .nil, f_law hl, fun H' v fp' _ r _ _ => ?_⟩
    cases r
    rfl) fun _ _ _ _ _ z => z
end K36
open PySem PySem.W PyProof.Rows
set_option maxRecDepth 100000 in
set_option maxHeartbeats 0 in
theorem PySem.Challenge.cw_linegate_k36_places_kept_and_open_holds : PySem.Challenge.rw_linegate_k36_places_kept_and_open.Holds := by
  w_on; o_law; k_head; (case hw => w_witness2)
  k_fill
  refine K36.walk (l := PySem.Challenge.rw_linegate_k36_places_kept_and_open) rfl rfl (fun w h Y => PySem.W.kIn_of Y) ?F
  case F =>
    intro w mg fa h KX G hmg
    refine' K36.all_mk KX G hmg ?a_L_take ?l_L_take ?c_L_take ?k_L_take ?a_L_mix ?l_L_mix ?c_L_mix ?k_L_mix ?a_middle_of_gap ?l_middle_of_gap ?c_middle_of_gap ?k_middle_of_gap ?a_wanted_places ?l_wanted_places ?c_wanted_places ?k_wanted_places ?a_L_whole ?l_L_whole ?c_L_whole ?k_L_whole ?a_L_rises ?l_L_rises ?c_L_rises ?k_L_rises ?a_L_widest ?l_L_widest ?c_L_widest ?k_L_widest ?a_L_fewer ?l_L_fewer ?c_L_fewer ?k_L_fewer ?a_law ?l_law ?c_law ?k_law ?z_bool ?z_int ?z_isinstance ?z_len ?z_list ?z_max ?z_min ?z_range ?z_reversed ?z_sorted ?z_zip
    (case a_L_take => k_is); (case l_L_take => k_is); (case c_L_take => k_is); (case k_L_take => k_is)
    (case a_L_mix => k_is); (case l_L_mix => k_is); (case c_L_mix => k_is); (case k_L_mix => k_is)
    (case a_middle_of_gap => k_is); (case l_middle_of_gap => k_is); (case c_middle_of_gap => k_is); (case k_middle_of_gap => k_is)
    (case a_wanted_places => k_is); (case l_wanted_places => k_is); (case c_wanted_places => k_is); (case k_wanted_places => k_is)
    (case a_L_whole => k_is); (case l_L_whole => k_is); (case c_L_whole => k_is); (case k_L_whole => k_is)
    (case a_L_rises => k_is); (case l_L_rises => k_is); (case c_L_rises => k_is); (case k_L_rises => k_is)
    (case a_L_widest => k_is); (case l_L_widest => k_is); (case c_L_widest => k_is); (case k_L_widest => k_is)
    (case a_L_fewer => k_is); (case l_L_fewer => k_is); (case c_L_fewer => k_is); (case k_L_fewer => k_is)
    (case a_law => k_is); (case l_law => k_is); (case c_law => k_is); (case k_law => k_is)
    (case z_bool => k_is); (case z_int => k_is); (case z_isinstance => k_is); (case z_len => k_is); (case z_list => k_is); (case z_max => k_is); (case z_min => k_is); (case z_range => k_is); (case z_reversed => k_is); (case z_sorted => k_is); (case z_zip => k_is)
