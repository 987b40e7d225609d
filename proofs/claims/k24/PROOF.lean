import PyProof.Rows.All
import Wide.All
import OpenK.AllK
import Wide.FinOn
import Lean
import PyProof.EqAt
import PyProof.EqKinds
import PyProof.TupleCall
import PyProof.Rows.SortPure
import PySem.Builtin.Int.W1All
import PySem.Sem
import PyProof.StrBlockL
import PyProof.SliceStr2
import PyProof.StrCalls2
import PyProof.WalkInts
import PyProof.Rows.StrStep
import PyProof.FactsAll.tuple_0
import PyProof.FactsAll.tuple_2
import PyProof.FactsAll.tuple_3
import PyProof.StrLawsIdx
import PyProof.SliceList
import PySem.Challenge.RW_signright_k24_who_may_sign
set_option Elab.async false
set_option linter.all false
set_option maxRecDepth 100000
namespace L2
open PySem PySem.Spec PyProof.Rows
abbrev Key := Sum Int Str
def keyIs : Key → Value → Bool
  | .inl k, v => Value.isInt k v
  | .inr x, v => Value.isStrOf x v
def keyH (w : World) : Key → Int
  | .inl k => hashInt k
  | .inr x => hashStr w x
theorem keyIs_shape : ∀ {k : Key} {v : Value}, keyIs k v = true → (∃ i t, k = Sum.inl i ∧ v = Value.int i t) ∨ (∃ x t, k = Sum.inr x ∧ v = Value.str x t)
  | .inl i, v, h => by
    obtain ⟨t, e⟩ := Value.isInt_shape (k := i) (v := v) h
    exact .inl ⟨i, t, rfl, e⟩
  | .inr x, v, h => by
    obtain ⟨t, e⟩ := Value.isStrOf_shape (x := x) (v := v) h
    exact .inr ⟨x, t, rfl, e⟩
theorem key_ll (a b : Int) : decide ((Sum.inl a : Key) = Sum.inl b) = (a == b) := by
  by_cases e : a = b
  · subst e; simp
  · have h : ¬ (Sum.inl a : Key) = Sum.inl b := fun q => e (Sum.inl.inj q)
    rw [decide_eq_false h]
    exact (beq_eq_false_iff_ne.mpr e).symm
theorem key_rr (a b : Str) : decide ((Sum.inr a : Key) = Sum.inr b) = decide (a = b) := by
  by_cases e : a = b
  · subst e; simp
  · have h : ¬ (Sum.inr a : Key) = Sum.inr b := fun q => e (Sum.inr.inj q)
    rw [decide_eq_false h, decide_eq_false e]
theorem key_lr (a : Int) (b : Str) : decide ((Sum.inl a : Key) = Sum.inr b) = false := decide_eq_false (fun q => nomatch q)
theorem key_rl (a : Str) (b : Int) : decide ((Sum.inr a : Key) = Sum.inl b) = false := decide_eq_false (fun q => nomatch q)
def mixKind (prog : Program) (w : World) : PySem.KeyKind prog w Key where
  is := keyIs
  hash := keyH w
  inj := fun v a b ha hb => by
    rcases keyIs_shape ha with ⟨i, t, rfl, rfl⟩ | ⟨x, t, rfl, rfl⟩
    · rcases keyIs_shape hb with ⟨j, u, rfl, e⟩ | ⟨y, u, rfl, e⟩
      · injection e with e1 _; rw [e1]
      · exact nomatch e
    · rcases keyIs_shape hb with ⟨j, u, rfl, e⟩ | ⟨y, u, rfl, e⟩
      · exact nomatch e
      · injection e with e1 _; rw [e1]
  byValue := fun k v h => by
    rcases keyIs_shape h with ⟨i, t, rfl, rfl⟩ | ⟨x, t, rfl, rfl⟩ <;> rfl
  pyHash := fun hv h => by
    rcases keyIs_shape hv with ⟨i, t, rfl, rfl⟩ | ⟨x, t, rfl, rfl⟩
    · exact wpAny_pyHash_int h
    · exact wpAny_pyHash_str h
  eqBool := fun hu hv h => by
    rcases keyIs_shape hu with ⟨i, t, rfl, rfl⟩ | ⟨x, t, rfl, rfl⟩
    · rcases keyIs_shape hv with ⟨j, u, rfl, rfl⟩ | ⟨y, u, rfl, rfl⟩
      · rw [key_ll] at h; exact wpAny_eqBool_int h
      · rw [key_lr] at h; exact SeqAt.EqAt.int_str i t y u _ _ _ _ h
    · rcases keyIs_shape hv with ⟨j, u, rfl, rfl⟩ | ⟨y, u, rfl, rfl⟩
      · rw [key_rl] at h; exact SeqAt.EqAt.str_int x t j u _ _ _ _ h
      · rw [key_rr] at h; exact wpAny_eqBool_str h
  «strs» := fun k x t v h => by
    rcases keyIs_shape h with ⟨i, u, rfl, e⟩ | ⟨y, u, rfl, e⟩
    · exact nomatch e
    · injection e with e1 _
      subst e1
      cases v <;> rfl
end L2
namespace L2
open PySem PySem.Spec PyProof.Rows
inductive V where
  | non | bl (b : Bool) | int (i : Int) | str (x : Str) | byt (b : Array UInt8) | flt (b : UInt64) | ref (a : Addr) | ty (n : String)
  deriving DecidableEq
def RelV : V → Value → Prop
  | .non, u => u = Value.none
  | .bl b, u => u = Value.bool b
  | .int i, u => ∃ t, u = Value.int i t
  | .str x, u => ∃ t, u = Value.str x t
  | .byt b, u => ∃ t, u = Value.bytes b t
  | .flt b, u => ∃ t, u = Value.float b t
  | .ref a, u => u = Value.ref a
  | .ty n, u => u = Value.type n
abbrev Vals : List V → List Value → Prop := Paired RelV
theorem Vals.length {xs : List V} {us : List Value} (r : Vals xs us) : xs.length = us.length := Paired.length r
theorem Vals.get : ∀ {xs : List V} {us : List Value} {i : Nat} {x : V}, Vals xs us → xs[i]? = some x → ∃ u, us[i]? = some u ∧ RelV x u
  | _, _, _, _, .nil, e => by simp at e
  | _, _, 0, _, .cons r _, e => by simp at e; subst e; exact ⟨_, rfl, r⟩
  | _, _, i + 1, x, .cons _ t, e => by
    obtain ⟨u, h1, h2⟩ := Vals.get (i := i) (x := x) t (by simpa using e)
    exact ⟨u, by simpa using h1, h2⟩
theorem Vals.append : ∀ {xs ys : List V} {us ws : List Value}, Vals xs us → Vals ys ws → Vals (xs ++ ys) (us ++ ws)
  | _, _, _, _, .nil, s => s
  | _, _, _, _, .cons r t, s => .cons r (Vals.append t s)
theorem Vals.take : ∀ {xs : List V} {us : List Value} (n : Nat), Vals xs us → Vals (xs.take n) (us.take n)
  | _, _, 0, _ => .nil
  | _, _, _ + 1, .nil => .nil
  | _, _, n + 1, .cons r t => .cons r (Vals.take n t)
theorem Vals.drop : ∀ {xs : List V} {us : List Value} (n : Nat), Vals xs us → Vals (xs.drop n) (us.drop n)
  | _, _, 0, r => r
  | _, _, _ + 1, .nil => .nil
  | _, _, n + 1, .cons _ t => Vals.drop n t
def RelO : Option V → Option Value → Prop
  | some v, some u => RelV v u
  | none, none => True
  | _, _ => False
def KV {κ : Type} : List (κ × V) → List (κ × Value) → Prop := Paired fun (p : κ × V) (q : κ × Value) => p.1 = q.1 ∧ RelV p.2 q.2
def kV : Key → V
  | .inl i => .int i
  | .inr x => .str x
inductive HO where
  | lst (xs : List V)
  | tup (xs : List V)
  | dK (kvs : List (Key × V)) | dT (kvs : List (List Key × V))
  | set (S : Int → Bool) (n : Nat)
  | ins (C dx : Addr) (fs : List (Str × V))
  | own (x : Addr)
  | xd (fs : List (Str × V))
  | met (f x : Addr)
  | rng (lo hi : Int)
  | frz (o : Obj) (u : HO)
  | tbl (ps : Array Value)
  | ext (φ : Heap → Prop)
abbrev Hp := Addr → Option HO
def upd (H : Hp) (a : Addr) (o : HO) : Hp := fun b => if b = a then some o else H b
theorem upd_same {H : Hp} {a : Addr} {o : HO} : upd H a o a = some o := by unfold upd; rw [if_pos rfl]
theorem upd_ne {H : Hp} {a b : Addr} {o : HO} (h : b ≠ a) : upd H a o b = H b := by unfold upd; rw [if_neg h]
theorem ne_of_none {H : Hp} {a b : Addr} {o : HO} (h : H a = some o) (h' : H b = none) : a ≠ b := by
  intro e; subst e; rw [h] at h'; cases h'
section
variable (P : Program) (w : World)
def NoD (h : Heap) (a : Addr) : Prop := ∃ o, h.get? a = some o ∧ o.dict = none
def ObjOk (H : Hp) (h : Heap) (a : Addr) : HO → Prop
  | .lst xs => xs.length ≤ sizeLine ∧ ∃ (its : List Value) (n : Nat), Vals xs its ∧ h.get? a = some { cls := .type "list", data := .seq its.toArray n }
  | .tup xs => (xs.length ≤ sizeLine ∧ NoD h a) ∧ ∃ its : List Value, Vals xs its ∧ IsTup h a its.toArray
  | .dK kvs => kvs.length ≤ sizeLine ∧ (a == sysModules) = false ∧ ∃ vs, KV kvs vs ∧ h.DictOf (mixKind P w) a vs
  | .dT kvs => kvs.length ≤ sizeLine ∧ (a == sysModules) = false ∧ ∃ xs : List (List Key × Addr × Value),
      Paired (fun (p : List Key × V) (q : List Key × Addr × Value) => p.1 = q.1 ∧ H q.2.1 = some (.tup (p.1.map kV)) ∧ RelV p.2 q.2.2) kvs xs ∧
      ∃ o es ep, h.get? a = some o ∧ o.ExactDict ∧ o.data = .dict es ep ∧ es.toList = xs.map (entryOfKey (tupleKind (mixKind P w))) ∧ (xs.map (·.1)).Nodup
  | .set S n => h.SetOf (intKind P w) a S n
  | .ins C dx fs => H dx = some (.own a) ∧ fs.length ≤ 1000 ∧ dx ≠ a ∧ h.get? a = some (PySem.W.instObj C dx) ∧
      ∃ mA, h.Ns1 dx mA ∧ (∀ f, RelO (fs.lookup f) (mA f)) ∧ PySem.Within mA (fs.map (·.1))
  | .own _ => ∃ o, h.get? a = some o
  | .xd fs => ∃ mA, h.Ns1 a mA ∧ ∀ f, RelO (fs.lookup f) (mA f)
  | .rng lo hi => ∃ t u v, h.get? a = some { cls := .type "range", data := .fields #[.int lo t, .int hi u, .int 1 v] }
  | .frz o u => h.get? a = some o ∧ ObjOk H h a u
  | .tbl ps => h.get? a = some { cls := .none, data := .fields ps }
  | .met f x => h.get? a = some (PySem.W.methodObj (.ref f) (.ref x))
  | .ext φ => φ h ∧ (∃ o, h.get? a = some o) ∧ ∀ h1 h2 : Heap, φ h1 → (∀ o, h1.get? a = some o → h2.get? a = some o) → φ h2
def HOk (H : Hp) (h : Heap) : Prop := ∀ a o, H a = some o → ObjOk P w H h a o
end
section
variable {P : Program} {w : World} {H H' : Hp} {h h' : Heap} {a : Addr} {o : HO}
theorem ObjOk.lt (x : ObjOk P w H h a o) : a < h.objs.size := by
  cases o with
  | lst xs => obtain ⟨_, _, _, _, e⟩ := x; exact Heap.lt_size e
  | tup xs => obtain ⟨_, _, _, p⟩ := x; exact p.lt
  | dK kvs => obtain ⟨_, _, _, _, o, _, _, e, _⟩ := x; exact Heap.lt_size e
  | dT kvs => obtain ⟨_, _, _, _, o, _, _, e, _⟩ := x; exact Heap.lt_size e
  | set S n => obtain ⟨o, _, _, _, e, _⟩ := x; exact Heap.lt_size e
  | ins C dx fs => obtain ⟨_, _, _, e, _⟩ := x; exact Heap.lt_size e
  | own y => obtain ⟨_, e⟩ := x; exact Heap.lt_size e
  | xd fs => obtain ⟨_, ⟨_, _, _, e, _⟩, _⟩ := x; exact Heap.lt_size e
  | rng lo hi => obtain ⟨_, _, _, e⟩ := x; exact Heap.lt_size e
  | frz ob u => obtain ⟨e, _⟩ := x; exact Heap.lt_size e
  | tbl ps => exact Heap.lt_size (show h.get? a = some _ from x)
  | met f y => exact Heap.lt_size (show h.get? a = some _ from x)
  | ext φ => obtain ⟨_, ⟨_, e⟩, _⟩ := x; exact Heap.lt_size e
theorem Paired.mapP {α β : Type} {F G : α → β → Prop} : ∀ {l₁ : List α} {l₂ : List β}, Paired F l₁ l₂ → (∀ a b, F a b → G a b) → Paired G l₁ l₂
  | _, _, .nil, _ => .nil
  | _, _, .cons r t, f => .cons (f _ _ r) (Paired.mapP t f)
theorem ObjOk.stay (x : ObjOk P w H h a o) (k : ∀ b u, (b = a ∨ H b = some (.own a)) → h.get? b = some u → h'.get? b = some u)
    (ho : ∀ b, H b = some (.own a) → H' b = some (.own a)) (ht : ∀ b xs, H b = some (.tup xs) → H' b = some (.tup xs)) : ObjOk P w H' h' a o := by
  induction o with
  | lst xs => obtain ⟨z, its, n, r, e⟩ := x; exact ⟨z, its, n, r, k _ _ (.inl rfl) e⟩
  | tup xs => obtain ⟨⟨z, od, ed, hd⟩, its, r, ob, e, c⟩ := x; exact ⟨⟨z, od, k _ _ (.inl rfl) ed, hd⟩, its, r, ob, k _ _ (.inl rfl) e, c⟩
  | dK kvs => obtain ⟨z, y, vs, r, ob, es, ep, e, c⟩ := x; exact ⟨z, y, vs, r, ob, es, ep, k _ _ (.inl rfl) e, c⟩
  | dT kvs =>
    obtain ⟨z, y, xs, r, ob, es, ep, e, c⟩ := x
    exact ⟨z, y, xs, Paired.mapP r fun p q z => ⟨z.1, ht _ _ z.2.1, z.2.2⟩, ob, es, ep, k _ _ (.inl rfl) e, c⟩
  | set S n => obtain ⟨ob, es, ep, t, e, c⟩ := x; exact ⟨ob, es, ep, t, k _ _ (.inl rfl) e, c⟩
  | ins C dx fs =>
    obtain ⟨d, z, ne, e, mA, ⟨od, es, ep, e2, c⟩, r⟩ := x
    exact ⟨ho _ d, z, ne, k _ _ (.inl rfl) e, mA, ⟨od, es, ep, k _ _ (.inr d) e2, c⟩, r⟩
  | own y => obtain ⟨ob, e⟩ := x; exact ⟨ob, k _ _ (.inl rfl) e⟩
  | xd fs => obtain ⟨mA, ⟨od, es, ep, e, c⟩, r⟩ := x; exact ⟨mA, ⟨od, es, ep, k _ _ (.inl rfl) e, c⟩, r⟩
  | rng lo hi => obtain ⟨t, u, v, e⟩ := x; exact ⟨t, u, v, k _ _ (.inl rfl) e⟩
  | frz ob u ih => obtain ⟨e, q⟩ := x; exact ⟨k _ _ (.inl rfl) e, ih q⟩
  | tbl ps =>
    have e : h.get? a = some { cls := .none, data := .fields ps } := x
    show h'.get? a = some { cls := .none, data := .fields ps }
    exact k a _ (.inl rfl) e
  | met f y =>
    have e : h.get? a = some (PySem.W.methodObj (.ref f) (.ref y)) := x
    show h'.get? a = some (PySem.W.methodObj (.ref f) (.ref y))
    exact k a _ (.inl rfl) e
  | ext φ => obtain ⟨p, ⟨o, e⟩, st⟩ := x; exact ⟨st _ _ p fun o q => k _ _ (.inl rfl) q, ⟨o, k _ _ (.inl rfl) e⟩, st⟩
theorem HOk.lt (x : HOk P w H h) (e : H a = some o) : a < h.objs.size := (x a o e).lt
theorem HOk.fresh (x : HOk P w H h) (e : h.objs.size ≤ a) : H a = none := by
  cases q : H a with
  | none => rfl
  | some u => exact absurd (Nat.lt_of_lt_of_le (x.lt q) e) (Nat.lt_irrefl _)
theorem HOk.kept (x : HOk P w H h) (k : ∀ b u, h.get? b = some u → h'.get? b = some u) : HOk P w H h' := fun a o e =>
  (x a o e).stay (fun b u _ q => k b u q) (fun _ q => q) fun _ _ q => q
theorem HOk.laid (x : HOk P w H h) (k : ∀ b u, h.get? b = some u → h'.get? b = some u) (hp : h.objs.size ≤ a) (new : ObjOk P w (upd H a o) h' a o) : HOk P w (upd H a o) h' := fun b u e => by
  have hn := x.fresh hp
  by_cases hb : b = a
  · subst hb; rw [upd_same] at e; cases e; exact new
  · rw [upd_ne hb] at e
    exact (x b u e).stay (fun c v _ q => k c v q) (fun c q => by rw [upd_ne (ne_of_none q hn)]; exact q) fun c xs q => by rw [upd_ne (ne_of_none q hn)]; exact q
end
def Rd (H : Hp) (a : Addr) (u : HO) : Prop := H a = some u ∨ ∃ o, H a = some (.frz o u)
theorem Rd.ok {P : Program} {w : World} {H : Hp} {h : Heap} {a : Addr} {u : HO} (r : Rd H a u) (x : HOk P w H h) : ObjOk P w H h a u := by
  rcases r with r | ⟨o, r⟩
  · exact x a u r
  · obtain ⟨_, q⟩ := x a _ r
    exact q
def Mut : Option HO → Prop
  | some (.lst _) => True
  | some (.dK _) => True
  | some (.dT _) => True
  | some (.set _ _) => True
  | some (.ins _ _ _) => True
  | some (.ext _) => True
  | _ => False
section
variable {P : Program} {w : World} {H : Hp} {h h' : Heap} {x e : Addr} {o' : HO}
theorem HOk.write (ok : HOk P w H h) (mu : Mut (H x)) (he : e = x ∨ H e = some (.own x)) (k : ∀ b u, b ≠ e → h.get? b = some u → h'.get? b = some u) (heo : ∃ u, h'.get? e = some u)
    (new : ObjOk P w (upd H x o') h' x o') : HOk P w (upd H x o') h' := fun b u q => by
  have nown : ∀ c y, H c = some (.own y) → c ≠ x := fun c y r z => by subst z; rw [r] at mu; exact mu
  have ntup : ∀ c xs, H c = some (.tup xs) → c ≠ x := fun c xs r z => by subst z; rw [r] at mu; exact mu
  by_cases hb : b = x
  · subst hb; rw [upd_same] at q; cases q; exact new
  · rw [upd_ne hb] at q
    by_cases hbe : b = e
    · have q' : H b = some (.own x) := by
        rcases he with z | z
        · exact absurd (hbe.trans z) hb
        · rw [hbe]; exact z
      rw [q] at q'; cases q'
      obtain ⟨v, hv⟩ := heo
      exact ⟨v, by rw [hbe]; exact hv⟩
    · refine (ok b u q).stay (fun c v hc r => k c v ?_ r) (fun c r => by rw [upd_ne (nown c b r)]; exact r) fun c xs r => by rw [upd_ne (ntup c xs r)]; exact r
      rcases hc with rfl | hc
      · exact hbe
      · rintro rfl
        rcases he with z | z
        · exact nown c b hc z
        · rw [hc] at z; cases z; exact hb rfl
end
structure Un (fs ex : List Addr) (H H' : Hp) (h h' : Heap) : Prop where
  keep : ∀ b o, h.get? b = some o → H b = none → b ∉ fs → b ∉ ex → h'.get? b = some o
  slot : ∀ b o, h.get? b = some o → H b = none → b ∈ fs → b ∉ ex → ∃ sl, h'.get? b = some { o with slots := sl }
  free : ∀ b o, h.get? b = some o → H b = none → b ∉ ex → H' b = none
  there : ∀ b o, h.get? b = some o → b ∉ ex → ∃ o', h'.get? b = some o'
  tups : ∀ b xs, H b = some (.tup xs) → H' b = some (.tup xs)
  frzs : ∀ b o u, H b = some (.frz o u) → H' b = some (.frz o u)
  tbls : ∀ b ps, H b = some (.tbl ps) → ∃ more, H' b = some (.tbl (ps ++ more))
section
variable {fs fs' ex ex' : List Addr} {H H1 H2 : Hp} {h h1 h2 h' : Heap} {a x e : Addr} {o : HO}
theorem Un.any (u : Un fs ex H H1 h h1) {b : Addr} {ob : Obj} (q : h.get? b = some ob) (n : H b = none) (hx : b ∉ ex) : ∃ sl, h1.get? b = some { ob with slots := sl } := by
  by_cases hb : b ∈ fs
  · exact u.slot b ob q n hb hx
  · exact ⟨ob.slots, u.keep b ob q n hb hx⟩
theorem Un.kept (k : ∀ b u, h.get? b = some u → h'.get? b = some u) : Un fs ex H H h h' :=
  ⟨fun b ob q _ _ _ => k b ob q, fun b ob q _ _ _ => ⟨ob.slots, k b ob q⟩, fun _ _ _ n _ => n, fun b ob q _ => ⟨ob, k b ob q⟩, fun _ _ q => q, fun _ _ _ q => q, fun _ ps q => ⟨#[], by rw [q]; simp⟩⟩
theorem Un.refl : Un fs ex H H h h := Un.kept fun _ _ q => q
theorem Un.laid (k : ∀ b u, h.get? b = some u → h'.get? b = some u) (hp : h.objs.size ≤ a) (hn : H a = none) : Un fs ex H (upd H a o) h h' where
  keep := fun b u q _ _ _ => k b u q
  slot := fun b u q _ _ _ => ⟨u.slots, k b u q⟩
  free := fun b u q n _ => by rw [upd_ne (Nat.ne_of_lt (Nat.lt_of_lt_of_le (Heap.lt_size q) hp))]; exact n
  there := fun b u q _ => ⟨u, k b u q⟩
  tups := fun b xs q => by rw [upd_ne (ne_of_none q hn)]; exact q
  frzs := fun b u xs q => by rw [upd_ne (ne_of_none q hn)]; exact q
  tbls := fun b ps q => ⟨#[], by rw [upd_ne (ne_of_none q hn), q]; simp⟩
theorem Un.write (mu : Mut (H x)) (he : e = x ∨ H e = some (.own x)) (k : ∀ b u, b ≠ e → h.get? b = some u → h'.get? b = some u) (heo : ∃ u, h'.get? e = some u) : Un fs ex H (upd H x o) h h' := by
  have hx : ∀ b, H b = none → b ≠ x := fun b n z => by subst z; rw [n] at mu; exact mu
  have hb : ∀ b, H b = none → b ≠ e := fun b n z => by
    subst z
    rcases he with r | r
    · exact hx b n r
    · rw [n] at r; cases r
  have hm : ∀ b u, H b = some u → ¬ Mut (some u) → b ≠ x := fun b u q nm z => by subst z; rw [q] at mu; exact nm mu
  refine ⟨fun b u q n _ _ => k b u (hb b n) q, fun b u q n _ _ => ⟨u.slots, k b u (hb b n) q⟩, fun b u q n _ => by rw [upd_ne (hx b n)]; exact n, fun b u q _ => ?_,
    fun b xs q => by rw [upd_ne (hm b _ q fun z => z)]; exact q, fun b u xs q => by rw [upd_ne (hm b _ q fun z => z)]; exact q, fun b ps q => ⟨#[], by rw [upd_ne (hm b _ q fun z => z), q]; simp⟩⟩
  by_cases hbe : b = e
  · subst hbe; exact heo
  · exact ⟨u, k b u hbe q⟩
end
def trk (h : Heap) (H : Hp) : List Addr := (List.range h.objs.size).filter fun a => (H a).isSome
def hidT (h : Heap) (H : Hp) : Heap := PySem.W.hideAll h (trk h H)
theorem hidT_size (h : Heap) (H : Hp) : (hidT h H).objs.size = h.objs.size := PySem.W.hideAll_size _ _
theorem hidT_get {h : Heap} {H : Hp} {b : Addr} {o : Obj} (e : h.get? b = some o) (n : H b = none) : (hidT h H).get? b = some o :=
  PySem.W.hideAll_get _ e fun hm => by
    have q : (H b).isSome = true := (List.mem_filter.mp hm).2
    rw [n] at q; simp at q
theorem of_hidT {h : Heap} {H : Hp} {b : Addr} {o : Obj} (e : (hidT h H).get? b = some o) : h.get? b = some o ∧ H b = none := by
  have e' : h.get? b = some o := PySem.W.of_hideAll (trk h H) e
  refine ⟨e', ?_⟩
  cases q : H b with
  | none => rfl
  | some x =>
    have hm : b ∈ trk h H := List.mem_filter.mpr ⟨List.mem_range.mpr (Heap.lt_size e'), by simp [q]⟩
    have z : (hidT h H).get? b = none := PySem.W.hideAll_none (trk h H) hm
    rw [z] at e; cases e
end L2
namespace L2
open PySem PySem.Spec PyProof.Rows
structure Mod (K : PySem.W.Frag) (mg : Str → Option Value) (base : Heap) : Prop where
  kin : K.In base
  glob : base.Ns mainGlobals mg
  blt : ∃ mb, base.Ns builtinsNs mb ∧ ∀ x : Str, x ≠ "__name__" → mb x = bootBuiltins x
  nolimit : base.NoLimit
structure Cx where
  prog : Program
  w : World
  K : PySem.W.Frag
  mg : Str → Option Value
  base : Heap
  A : Around
  N : List Str
  s₀ : Shared
  H₀ : Hp
  env : Env
  outer : List Env
  stack : List Env
  ex : List Addr
  fn : Str → Bool
  calm : Bool
  pn : List (Addr × Obj)
  xe : Value → Shared → Prop
def frs (l : List Env) : List Addr := l.filterMap (·.frame)
abbrev Cx.fs (X : Cx) : List Addr := frs X.outer
def Vis (sc : Scope) (x : Str) : Prop := sc.names.lookup x = some .local ∨ sc.names.lookup x = some .cell ∨ sc.names.lookup x = some .free
def Loc (sc : Scope) (x : Str) : Prop := sc.names.lookup x = some .local ∨ sc.names.lookup x = some .cell
def Look (env : Env) (h : Heap) (m : Str → Option Value) (x : Str) (u : Value) : Prop :=
  (env.kindOf x = some .local ∧ m x = some u) ∨ ((env.kindOf x = some .cell ∨ env.kindOf x = some .free) ∧ ∃ c, env.cells.lookup x = some c ∧ h.IsCell c (some u))
structure Cx.Ok (X : Cx) : Prop where
  mod : Mod X.K X.mg X.base
  kind : X.env.scope.kind = .function
  glob : X.env.globals = mainGlobals
  blt : X.env.builtins = builtinsNs
  above : X.s₀.heap.objs.size ≤ X.env.locals
  inj : ∀ x y c, X.env.cells.lookup x = some c → X.env.cells.lookup y = some c → x = y
  has : ∀ x, (X.env.kindOf x = some .cell ∨ X.env.kindOf x = some .free) → ∃ c, X.env.cells.lookup x = some c
  cab : ∀ x c, X.fn x = true → X.env.cells.lookup x = some c → X.s₀.heap.objs.size ≤ c
  hd : X.calm = true → X.A.handled = none
  frames : X.A.frames = some X.stack
  stk : X.stack = X.outer ∨ (X.stack = X.env :: X.outer ∧ X.env.frame = some X.env.locals)
  exf : ∀ b ∈ X.ex, b ≠ X.env.locals ∧ ∀ x c, X.env.cells.lookup x = some c → c ≠ b
  bs : ∀ b o, X.base.get? b = some o → X.s₀.heap.get? b = some o ∧ X.H₀ b = none
  bsz : X.base.objs.size ≤ X.s₀.heap.objs.size
  noex : ∀ b o, X.base.get? b = some o → b ∉ X.ex
  exfs : ∀ b ∈ X.ex, b ∉ X.fs
  funs : X.s₀.heap.FunFrames X.base X.outer
  frf : ∀ b ∈ X.fs, X.H₀ b = none
structure Inv (X : Cx) (pins : List (Addr × Obj)) (σ : List (Option V)) (H : Hp) (s : Shared) : Prop where
  ok : X.Ok
  os : s.os = X.s₀.os
  bare : AllBare s.gens
  base : Un X.fs X.ex X.H₀ H X.s₀.heap s.heap
  loc : ∃ m, s.heap.Ns X.env.locals m ∧ ∀ (i : Nat) (x : Str) (v : V), X.N[i]? = some x → σ[i]? = some (some v) → Vis X.env.scope x → ∃ u, RelV v u ∧ Look X.env s.heap m x u
  cell : ∀ x c, X.env.cells.lookup x = some c → ∃ v, s.heap.IsCell c v
  free : H X.env.locals = none
  freeC : ∀ x c, X.env.cells.lookup x = some c → H c = none
  pin : ∀ p ∈ X.pn ++ pins, s.heap.get? p.1 = some p.2 ∧ H p.1 = none ∧ p.1 ≠ X.env.locals ∧ p.1 ∉ X.fs ∧ ∀ v, p.2.data ≠ .cell v
  hok : HOk X.prog X.w H s.heap
  len : σ.length = X.N.length
section
variable {X : Cx} {pins : List (Addr × Obj)} {σ : List (Option V)} {H H' : Hp} {s : Shared} {h' : Heap}
theorem Cx.Ok.nofr (ok : X.Ok) {b : Addr} {o : Obj} (e : X.base.get? b = some o) : b ∉ X.fs := fun hb => by
  have := (ok.funs.mem hb).1
  rw [e] at this; cases this
theorem Inv.bs (I : Inv X pins σ H s) : ∀ b o, X.base.get? b = some o → s.heap.get? b = some o ∧ H b = none := fun b o e =>
  ⟨I.base.keep b o (I.ok.bs b o e).1 (I.ok.bs b o e).2 (I.ok.nofr e) (I.ok.noex b o e), I.base.free b o (I.ok.bs b o e).1 (I.ok.bs b o e).2 (I.ok.noex b o e)⟩
theorem Inv.bk (I : Inv X pins σ H s) : ∀ b o, X.base.get? b = some o → s.heap.get? b = some o := fun b o e => (I.bs b o e).1
theorem Inv.mod (I : Inv X pins σ H s) : Mod X.K X.mg X.base := I.ok.mod
theorem Inv.kIn (I : Inv X pins σ H s) : X.K.In s.heap := I.ok.mod.kin.keeps I.bk
theorem Inv.lt (I : Inv X pins σ H s) : X.env.locals < s.heap.objs.size := let ⟨_, hn, _⟩ := I.loc; hn.lt
theorem Inv.sz (I : Inv X pins σ H s) : X.s₀.heap.objs.size ≤ s.heap.objs.size := Nat.le_trans I.ok.above (Nat.le_of_lt I.lt)
theorem Inv.nofs (I : Inv X pins σ H s) {a : Addr} (h : s.heap.objs.size ≤ a) : a ∉ X.fs := fun hb => by
  obtain ⟨_, o, ho, _⟩ := I.ok.funs.mem hb
  exact absurd (Nat.lt_of_lt_of_le (Heap.lt_size ho) (Nat.le_trans I.sz h)) (Nat.lt_irrefl _)
theorem Inv.cne (I : Inv X pins σ H s) : ∀ x c, X.env.cells.lookup x = some c → c ≠ X.env.locals := fun x c e z => by
  obtain ⟨v, o, ho, hd⟩ := I.cell x c e
  obtain ⟨m, ⟨o', es, ep, ho', hd', _⟩, _⟩ := I.loc
  rw [z, ho'] at ho; cases ho; rw [hd'] at hd; cases hd
theorem Inv.funs (I : Inv X pins σ H s) : s.heap.FunFrames X.base X.outer := by
  have all : ∀ (l : List Env), (∀ b ∈ frs l, b ∈ X.fs) → X.s₀.heap.FunFrames X.base l → s.heap.FunFrames X.base l := by
    intro l
    induction l with
    | nil => intro _ _; trivial
    | cons env r ih =>
      intro hs hl
      obtain ⟨hk, ⟨L, o, hf, hn, ho, hd⟩, hr⟩ := hl
      have hL : L ∈ X.fs := hs L (by unfold frs; rw [List.filterMap_cons, hf]; exact List.mem_cons_self)
      obtain ⟨sl, e⟩ := I.base.slot L o ho (I.ok.frf L hL) hL fun z => I.ok.exfs L z hL
      exact ⟨hk, ⟨L, _, hf, hn, e, hd⟩, ih (fun b hb => hs b (by unfold frs; rw [List.filterMap_cons, hf]; exact List.mem_cons_of_mem _ hb)) hr⟩
  exact all X.outer (fun _ hb => hb) I.ok.funs
theorem Inv.stack (I : Inv X pins σ H s) : s.heap.FunFrames X.base X.stack := by
  rcases I.ok.stk with e | ⟨e, hf⟩
  · rw [e]; exact I.funs
  · rw [e]
    obtain ⟨m, hn, _⟩ := I.loc
    refine .cons (by rw [I.ok.kind]; decide) hf hn ?_ I.funs
    exact Heap.get?_none_of_le (Nat.le_trans I.ok.bsz I.ok.above)
theorem Inv.stkSub (I : Inv X pins σ H s) : ∀ b ∈ frs X.stack, b ∈ X.env.locals :: X.fs := fun b hb => by
  rcases I.ok.stk with e | ⟨e, hf⟩
  · rw [e] at hb; exact List.mem_cons_of_mem _ hb
  · rw [e] at hb
    unfold frs at hb
    rw [List.filterMap_cons, hf] at hb
    exact hb
theorem Inv.stkFree (I : Inv X pins σ H s) : ∀ b ∈ frs X.stack, H b = none := fun b hb => by
  rcases List.mem_cons.mp (I.stkSub b hb) with e | hb
  · rw [e]; exact I.free
  · obtain ⟨_, o, ho, _⟩ := I.ok.funs.mem hb
    exact I.base.free b o ho (I.ok.frf b hb) fun z => I.ok.exfs b z hb
theorem Inv.step {g' : Array GenState} {t' : Nat} {d' : Drawn} {ch : List Addr} (I : Inv X pins σ H s)
    (hch : ∀ b ∈ ch, (b ∈ X.ex ∨ X.s₀.heap.objs.size ≤ b) ∧ b ≠ X.env.locals ∧ (∀ x c, X.env.cells.lookup x = some c → c ≠ b) ∧ ∀ p ∈ X.pn ++ pins, p.1 ≠ b)
    (keep : ∀ b o, b ≠ X.env.locals → b ∉ X.fs → b ∉ ch → s.heap.get? b = some o → H b = none → h'.get? b = some o)
    (slot : ∀ b o, b ≠ X.env.locals → b ∈ X.fs → b ∉ ch → s.heap.get? b = some o → H b = none → ∃ sl, h'.get? b = some { o with slots := sl }) (free : ∀ b o, b ∉ ch → s.heap.get? b = some o → H b = none → H' b = none)
    (there : ∀ b o, b ∉ ch → s.heap.get? b = some o → ∃ o', h'.get? b = some o')
    (tups : ∀ b xs, H b = some (.tup xs) → H' b = some (.tup xs)) (frzs : ∀ b o u, H b = some (.frz o u) → H' b = some (.frz o u)) (tbls : ∀ b ps, H b = some (.tbl ps) → ∃ more, H' b = some (.tbl (ps ++ more)))
    (ns : ∀ m, s.heap.Ns X.env.locals m → h'.Ns X.env.locals m) (hok : HOk X.prog X.w H' h') (hg : AllBare g') :
    Inv X pins σ H' { s with heap := h', gens := g', drawn := d', toks := t' } := by
  have neL : ∀ b o, X.s₀.heap.get? b = some o → b ≠ X.env.locals := fun b o e => Nat.ne_of_lt (Nat.lt_of_lt_of_le (Heap.lt_size e) I.ok.above)
  have neC : ∀ b o, X.s₀.heap.get? b = some o → b ∉ X.ex → b ∉ ch := fun b o e hx hb => by
    rcases (hch b hb).1 with z | z
    · exact hx z
    · exact absurd (Nat.lt_of_lt_of_le (Heap.lt_size e) z) (Nat.lt_irrefl _)
  have cellK : ∀ x c, X.env.cells.lookup x = some c → ∀ v, s.heap.IsCell c v → h'.IsCell c v := fun x c e v ⟨o, ho, hd⟩ => by
    have nch : c ∉ ch := fun z => (hch c z).2.2.1 x c e rfl
    by_cases hc : c ∈ X.fs
    · obtain ⟨sl, q⟩ := slot c o (I.cne x c e) hc nch ho (I.freeC x c e)
      exact ⟨_, q, hd⟩
    · exact ⟨o, keep c o (I.cne x c e) hc nch ho (I.freeC x c e), hd⟩
  refine ⟨I.ok, I.os, hg, ⟨fun b o e n hb hx => ?_, fun b o e n hb hx => ?_, fun b o e n hx => ?_, fun b o e hx => ?_, fun b xs e => tups b xs (I.base.tups b xs e), fun b o xs e => frzs b o xs (I.base.frzs b o xs e), fun b ps e => ?_⟩, ?_, fun x c e => ?_, ?_, fun x c e => ?_, fun p hp => ?_, hok, I.len⟩
  · exact keep b o (neL b o e) hb (neC b o e hx) (I.base.keep b o e n hb hx) (I.base.free b o e n hx)
  · obtain ⟨sl, e1⟩ := I.base.slot b o e n hb hx
    obtain ⟨sl', e2⟩ := slot b _ (neL b o e) hb (neC b o e hx) e1 (I.base.free b o e n hx)
    exact ⟨sl', e2⟩
  · obtain ⟨o', e1⟩ := I.base.there b o e hx
    exact free b o' (neC b o e hx) e1 (I.base.free b o e n hx)
  · obtain ⟨o', e1⟩ := I.base.there b o e hx
    exact there b o' (neC b o e hx) e1
  · obtain ⟨m1, e1⟩ := I.base.tbls b ps e
    obtain ⟨m2, e2⟩ := tbls b _ e1
    exact ⟨m1 ++ m2, by rw [e2, Array.append_assoc]⟩
  · obtain ⟨m, hn, hl⟩ := I.loc
    refine ⟨m, ns m hn, fun i x v e1 e2 e3 => ?_⟩
    obtain ⟨u, r, l⟩ := hl i x v e1 e2 e3
    refine ⟨u, r, ?_⟩
    rcases l with l | ⟨k, c, e, z⟩
    · exact .inl l
    · exact .inr ⟨k, c, e, cellK x c e _ z⟩
  · obtain ⟨v, z⟩ := I.cell x c e
    exact ⟨v, cellK x c e v z⟩
  · obtain ⟨m, ⟨o, _, _, ho, _⟩, _⟩ := I.loc
    exact free _ o (fun z => (hch _ z).2.1 rfl) ho I.free
  · obtain ⟨v, o, ho, hd⟩ := I.cell x c e
    exact free c o (fun z => (hch c z).2.2.1 x c e rfl) ho (I.freeC x c e)
  · obtain ⟨e, n, ne, nf, d⟩ := I.pin p hp
    have nch : p.1 ∉ ch := fun z => (hch p.1 z).2.2.2 p hp rfl
    exact ⟨keep p.1 p.2 ne nf nch e n, free p.1 p.2 nch e n, ne, nf, d⟩
theorem Inv.un {t' : Nat} (I : Inv X pins σ H s) (u : Un X.fs [] H H' s.heap h') (hok : HOk X.prog X.w H' h') : Inv X pins σ H' { s with heap := h', toks := t' } := by
  obtain ⟨m, ⟨o, es, ep, ho, r⟩, _⟩ := id I.loc
  obtain ⟨sl, hL⟩ := u.any ho I.free (by simp)
  exact I.step (g' := s.gens) (d' := s.drawn) (ch := []) (fun _ z => nomatch z) (fun b o _ hb _ e n => u.keep b o e n hb (by simp)) (fun b o _ hb _ e n => u.slot b o e n hb (by simp)) (fun b o _ e n => u.free b o e n (by simp)) (fun b o _ e => u.there b o e (by simp)) u.tups u.frzs u.tbls (fun m' hm => by
    obtain ⟨o', es', ep', ho', r'⟩ := hm
    rw [ho] at ho'; cases ho'
    exact ⟨_, es', ep', hL, r'⟩) hok I.bare
theorem Inv.call {g' : Array GenState} {t' : Nat} {d' : Drawn} {ch : List Addr} (I : Inv X pins σ H s) (u : Un (frs X.stack) ch H H' s.heap h') (hok : HOk X.prog X.w H' h') (hg : AllBare g')
    (hch : ∀ b ∈ ch, (b ∈ X.ex ∨ X.s₀.heap.objs.size ≤ b) ∧ b ≠ X.env.locals ∧ (∀ x c, X.env.cells.lookup x = some c → c ≠ b) ∧ ∀ p ∈ X.pn ++ pins, p.1 ≠ b) :
    Inv X pins σ H' { s with heap := h', gens := g', drawn := d', toks := t' } := by
  obtain ⟨m, ⟨o, es, ep, ho, r⟩, _⟩ := id I.loc
  obtain ⟨sl, hL⟩ := u.any ho I.free fun z => (hch _ z).2.1 rfl
  exact I.step (ch := ch) hch (fun b o hL hb hc e n => u.keep b o e n (fun z => (List.mem_cons.mp (I.stkSub b z)).elim hL hb) hc) (fun b o _ _ hc e n => u.any e n hc) (fun b o hc e n => u.free b o e n hc) (fun b o hc e => u.there b o e hc) u.tups u.frzs u.tbls (fun m' hm => by
    obtain ⟨o', es', ep', ho', r'⟩ := hm
    rw [ho] at ho'; cases ho'
    exact ⟨_, es', ep', hL, r'⟩) hok hg
theorem Inv.turned {t' : Nat} {it : Addr} (I : Inv X pins σ H s) (k : ∀ b o, b ≠ it → s.heap.get? b = some o → h'.get? b = some o) (hn : H it = none) (hL : it ≠ X.env.locals)
    (h1 : it ∈ X.ex ∨ X.s₀.heap.objs.size ≤ it) (h2 : ∀ x c, X.env.cells.lookup x = some c → c ≠ it) (h3 : ∀ p ∈ X.pn ++ pins, p.1 ≠ it) : Inv X pins σ H { s with heap := h', toks := t' } := by
  have nit : ∀ b u, H b = some u → b ≠ it := fun b u e z => by rw [z, hn] at e; cases e
  refine I.step (g' := s.gens) (d' := s.drawn) (ch := [it]) (fun b hb => ?_) (fun b o _ _ hc e _ => k b o (fun z => hc (by simp [z])) e) (fun b o _ _ hc e _ => ⟨o.slots, k b o (fun z => hc (by simp [z])) e⟩) (fun _ _ _ _ n => n)
    (fun b o hc e => ⟨o, k b o (fun z => hc (by simp [z])) e⟩) (fun _ _ e => e) (fun _ _ _ e => e) (fun b ps e => ⟨#[], by rw [e]; simp⟩) (fun m hm => ?_) (fun b u e => ?_) I.bare
  · have e : b = it := by simpa using hb
    subst e
    exact ⟨h1, hL, h2, h3⟩
  · obtain ⟨o, es, ep, ho, r⟩ := hm
    exact ⟨o, es, ep, k _ o (Ne.symm hL) ho, r⟩
  · refine (I.hok b u e).stay (fun c v hc q => k c v ?_ q) (fun _ q => q) fun _ _ q => q
    rcases hc with z | z
    · rw [z]; exact nit b u e
    · exact nit c _ z
theorem Inv.tok (I : Inv X pins σ H s) (t : Nat) : Inv X pins σ H { s with toks := t } := I.un (h' := s.heap) (t' := t) Un.refl I.hok
theorem Inv.kept {t' : Nat} (I : Inv X pins σ H s) (k : ∀ b u, s.heap.get? b = some u → h'.get? b = some u) : Inv X pins σ H { s with heap := h', toks := t' } := I.un (Un.kept k) (I.hok.kept k)
theorem Inv.laid {a : Addr} {o : HO} {t' : Nat} (I : Inv X pins σ H s) (k : ∀ b u, s.heap.get? b = some u → h'.get? b = some u) (hp : s.heap.objs.size ≤ a) (new : ObjOk X.prog X.w (upd H a o) h' a o) :
    Inv X pins σ (upd H a o) { s with heap := h', toks := t' } := I.un (Un.laid k hp (I.hok.fresh hp)) (I.hok.laid k hp new)
theorem Inv.write {x e : Addr} {o : HO} {t' : Nat} (I : Inv X pins σ H s) (mu : Mut (H x)) (he : e = x ∨ H e = some (.own x)) (k : ∀ b u, b ≠ e → s.heap.get? b = some u → h'.get? b = some u) (heo : ∃ u, h'.get? e = some u)
    (new : ObjOk X.prog X.w (upd H x o) h' x o) : Inv X pins σ (upd H x o) { s with heap := h', toks := t' } := I.un (Un.write mu he k heo) (I.hok.write mu he k heo new)
theorem Inv.weak {σ' : List (Option V)} (I : Inv X pins σ H s) (hl : σ'.length = σ.length) (w : ∀ (i : Nat) v, σ'[i]? = some (some v) → σ[i]? = some (some v)) : Inv X pins σ' H s :=
  ⟨I.ok, I.os, I.bare, I.base, let ⟨m, hn, hl'⟩ := I.loc; ⟨m, hn, fun i x v e1 e2 e3 => hl' i x v e1 (w i v e2) e3⟩, I.cell, I.free, I.freeC, I.pin, I.hok, hl.trans I.len⟩
theorem Inv.pins_of {pins' : List (Addr × Obj)} (I : Inv X pins σ H s) (h : ∀ p ∈ pins', s.heap.get? p.1 = some p.2 ∧ H p.1 = none ∧ p.1 ≠ X.env.locals ∧ p.1 ∉ X.fs ∧ ∀ v, p.2.data ≠ .cell v) : Inv X pins' σ H s :=
  ⟨I.ok, I.os, I.bare, I.base, I.loc, I.cell, I.free, I.freeC, fun p hp => (List.mem_append.mp hp).elim (fun z => I.pin p (List.mem_append_left _ z)) (h p), I.hok, I.len⟩
theorem nodup_ix {N : List Str} (hN : N.Nodup) {i j : Nat} {x : Str} (a : N[i]? = some x) (b : N[j]? = some x) : i = j := by
  obtain ⟨h1, e1⟩ := List.getElem?_eq_some_iff.mp a
  obtain ⟨h2, e2⟩ := List.getElem?_eq_some_iff.mp b
  exact (List.getElem_inj hN).mp (e1.trans e2.symm)
theorem store_ok2 {M : Model} {A : Around} {E : Value → Shared → Prop} {i : Nat} {x : Str} {v : V} {u : Value} {Q : Unit → Shared → Prop} (I : Inv X pins σ H s) (hN : X.N.Nodup) (hi : X.N[i]? = some x) (hx : Loc X.env.scope x) (r : RelV v u)
    (h : ∀ s', Inv X pins (σ.set i (some v)) H s' → (∃ a, Heap.SameBut a s.heap s'.heap ∧ (a = X.env.locals ∨ X.env.cells.lookup x = some a)) → Q () s') (hf : X.fn x = true ∨ X.env.scope.names.lookup x = some .local := by first | exact .inl rfl | exact .inr rfl | assumption) : wpAny M A (storeName X.env x u) Q E s := by
  obtain ⟨m, hn, hl⟩ := id I.loc
  have hcls : (X.env.scope.kind == .class || (X.env.scope.kind == .module && X.env.locals != X.env.globals)) = false := by rw [I.ok.kind]; rfl
  have hiσ : i < σ.length := by rw [I.len]; exact (List.getElem?_eq_some_iff.mp hi).1
  have cne := I.cne
  have tracked : ∀ {a : Addr} {h' : Heap}, (∃ o, s.heap.get? a = some o ∧ H a = none) → Heap.SameBut a s.heap h' → HOk X.prog X.w H h' := fun {a h'} ha hs b ob e => by
    obtain ⟨_, _, hfree⟩ := ha
    refine (I.hok b ob e).stay (fun c w' hc q => (hs.2 c ?_).trans q) (fun _ q => q) fun _ _ q => q
    rintro rfl
    rcases hc with rfl | hc
    · rw [hfree] at e; cases e
    · rw [hfree] at hc; cases hc
  rcases hx with hk | hk
  · refine wpAny_storeName_local hk hn (fun h' hn' hs => ?_) hcls
    obtain ⟨oL, _, _, hoL, _⟩ := id hn
    refine h _ ⟨I.ok, I.os, I.bare, ⟨fun b o e n hb hx => ?_, fun b o e n hb hx => ?_, I.base.free, fun b o e hx => ?_, I.base.tups, I.base.frzs, I.base.tbls⟩, ⟨_, hn', fun j y v' e1 e2 e3 => ?_⟩, fun y c e => ?_, I.free, I.freeC, fun p hp => ?_, tracked ⟨oL, hoL, I.free⟩ hs, by simpa using I.len⟩ ⟨_, hs, .inl rfl⟩
    · exact (hs.2 b (Nat.ne_of_lt (Nat.lt_of_lt_of_le (Heap.lt_size e) I.ok.above))).trans (I.base.keep b o e n hb hx)
    · obtain ⟨sl, e1⟩ := I.base.slot b o e n hb hx
      exact ⟨sl, (hs.2 b (Nat.ne_of_lt (Nat.lt_of_lt_of_le (Heap.lt_size e) I.ok.above))).trans e1⟩
    · obtain ⟨o', e1⟩ := I.base.there b o e hx
      exact ⟨o', (hs.2 b (Nat.ne_of_lt (Nat.lt_of_lt_of_le (Heap.lt_size e) I.ok.above))).trans e1⟩
    · by_cases hj : j = i
      · subst hj
        rw [hi] at e1; cases e1
        rw [List.getElem?_set_self hiσ] at e2
        cases e2
        exact ⟨u, r, .inl ⟨hk, by simp⟩⟩
      · rw [List.getElem?_set_ne (Ne.symm hj)] at e2
        obtain ⟨u', r', q⟩ := hl j y v' e1 e2 e3
        refine ⟨u', r', ?_⟩
        rcases q with ⟨k, e⟩ | ⟨k, c, e, z⟩
        · refine .inl ⟨k, ?_⟩
          have : y ≠ x := fun e => hj (nodup_ix hN e1 (e ▸ hi))
          simp [this, e]
        · exact .inr ⟨k, c, e, z.sameBut hs (cne y c e)⟩
    · obtain ⟨w', z⟩ := I.cell y c e
      exact ⟨w', z.sameBut hs (cne y c e)⟩
    · obtain ⟨e, n, ne, nf, d⟩ := I.pin p hp
      exact ⟨(hs.2 p.1 ne).trans e, n, ne, nf, d⟩
  · have hfn : X.fn x = true := by
      rcases hf with z | z
      · exact z
      · rw [z] at hk; cases hk
    obtain ⟨c, hc⟩ := I.ok.has x (.inl hk)
    obtain ⟨w', z⟩ := I.cell x c hc
    refine wpAny_storeName_cell I.ok.kind hk hc z (fun h' hc' hs => ?_)
    obtain ⟨oc, hoc, hocd⟩ := id z
    refine h { s with heap := h' } ⟨I.ok, I.os, I.bare, ⟨fun b o e n hb hx => ?_, fun b o e n hb hx => ?_, I.base.free, fun b o e hx => ?_, I.base.tups, I.base.frzs, I.base.tbls⟩, ⟨m, hn.sameBut hs (Ne.symm (cne x c hc)), fun j y v' e1 e2 e3 => ?_⟩, fun y c' e => ?_, I.free, I.freeC, fun p hp => ?_, tracked ⟨oc, hoc, I.freeC x c hc⟩ hs, by simpa using I.len⟩ ⟨c, hs, .inr hc⟩
    · exact (hs.2 b (Nat.ne_of_lt (Nat.lt_of_lt_of_le (Heap.lt_size e) (I.ok.cab x c hfn hc)))).trans (I.base.keep b o e n hb hx)
    · obtain ⟨sl, e1⟩ := I.base.slot b o e n hb hx
      exact ⟨sl, (hs.2 b (Nat.ne_of_lt (Nat.lt_of_lt_of_le (Heap.lt_size e) (I.ok.cab x c hfn hc)))).trans e1⟩
    · obtain ⟨o', e1⟩ := I.base.there b o e hx
      exact ⟨o', (hs.2 b (Nat.ne_of_lt (Nat.lt_of_lt_of_le (Heap.lt_size e) (I.ok.cab x c hfn hc)))).trans e1⟩
    · by_cases hj : j = i
      · subst hj
        rw [hi] at e1; cases e1
        rw [List.getElem?_set_self hiσ] at e2
        cases e2
        exact ⟨u, r, .inr ⟨.inl hk, c, hc, hc'⟩⟩
      · rw [List.getElem?_set_ne (Ne.symm hj)] at e2
        obtain ⟨u', r', q⟩ := hl j y v' e1 e2 e3
        refine ⟨u', r', ?_⟩
        rcases q with q | ⟨k, c', e, z'⟩
        · exact .inl q
        · refine .inr ⟨k, c', e, z'.sameBut hs ?_⟩
          rintro rfl
          exact hj (nodup_ix hN e1 (I.ok.inj _ _ _ e hc ▸ hi))
    · by_cases hcc : c' = c
      · subst hcc; exact ⟨_, hc'⟩
      · obtain ⟨w2, z2⟩ := I.cell y c' e
        exact ⟨w2, z2.sameBut hs hcc⟩
    · obtain ⟨e, n, ne, nf, d⟩ := I.pin p hp
      refine ⟨(hs.2 p.1 ?_).trans e, n, ne, nf, d⟩
      intro q
      rw [q, hoc] at e
      have q' : oc = p.2 := Option.some.inj e
      exact d w' (by rw [← q']; exact hocd)
theorem store_ok {M : Model} {A : Around} {E : Value → Shared → Prop} {i : Nat} {x : Str} {v : V} {u : Value} {Q : Unit → Shared → Prop} (I : Inv X pins σ H s) (hN : X.N.Nodup) (hi : X.N[i]? = some x) (hx : Loc X.env.scope x) (r : RelV v u)
    (h : ∀ s', Inv X pins (σ.set i (some v)) H s' → Q () s') (hf : X.fn x = true ∨ X.env.scope.names.lookup x = some .local := by first | exact .inl rfl | exact .inr rfl | assumption) : wpAny M A (storeName X.env x u) Q E s :=
  store_ok2 I hN hi hx r (fun s' I' _ => h s' I') hf
theorem Inv.call' {s' : Shared} {ch : List Addr} (I : Inv X pins σ H s) (ho : s'.os = s.os) (u : Un (frs X.stack) ch H H' s.heap s'.heap) (hok : HOk X.prog X.w H' s'.heap) (hg : AllBare s'.gens)
    (hch : ∀ b ∈ ch, (b ∈ X.ex ∨ X.s₀.heap.objs.size ≤ b) ∧ b ≠ X.env.locals ∧ (∀ x c, X.env.cells.lookup x = some c → c ≠ b) ∧ ∀ p ∈ X.pn ++ pins, p.1 ≠ b) : Inv X pins σ H' s' := by
  obtain ⟨h', g', d', t', o'⟩ := s'
  have e : o' = s.os := ho
  subst e
  exact I.call (g' := g') (t' := t') (d' := d') u hok hg hch
end
abbrev XK := Value → Option Addr → Hp → Prop
abbrev St := List (Option V)
abbrev VK := V → Hp → Prop
abbrev TE := St → Hp → VK → Prop
abbrev TT := St → Hp → (Bool → Hp → Prop) → Prop
abbrev TA := St → Hp → (List V → Hp → Prop) → Prop
structure Ends where
  nx : St → Hp → Prop
  rt : VK
  bk : St → Hp → Prop := fun _ _ => False
  ct : St → Hp → Prop := fun _ _ => False
abbrev TS := Ends → St → Hp → Prop
def EP (X : Cx) (pins : List (Addr × Obj)) (σ : St) (Q : VK) (u : Value) (s' : Shared) : Prop := ∃ v H', Inv X pins σ H' s' ∧ RelV v u ∧ Q v H'
def TP (X : Cx) (pins : List (Addr × Obj)) (σ : St) (Q : Bool → Hp → Prop) (b : Bool) (s' : Shared) : Prop := ∃ H', Inv X pins σ H' s' ∧ Q b H'
def AP (X : Cx) (pins : List (Addr × Obj)) (σ : St) (Q : List V → Hp → Prop) (us : List Value) (s' : Shared) : Prop := ∃ vs H', Inv X pins σ H' s' ∧ Vals vs us ∧ Q vs H'
def SP (X : Cx) (pins : List (Addr × Obj)) (D : Ends) (f : Flow) (s' : Shared) : Prop :=
  match f with
  | .next => ∃ σ' H', Inv X pins σ' H' s' ∧ D.nx σ' H'
  | .brk => ∃ σ' H', Inv X pins σ' H' s' ∧ D.bk σ' H'
  | .cont => ∃ σ' H', Inv X pins σ' H' s' ∧ D.ct σ' H'
  | .ret u => ∃ v σ' H', Inv X pins σ' H' s' ∧ RelV v u ∧ D.rt v H'
def PE (X : Cx) (e : Expr) (t : TE) : Prop :=
  ∀ (pins : List (Addr × Obj)) (s : Shared) (σ : St) (H : Hp) (Q : VK), Inv X pins σ H s → t σ H Q → wpAny (model X.prog X.w) X.A (eval e X.env) (EP X pins σ Q) X.xe s
def PT (X : Cx) (e : Expr) (t : TT) : Prop :=
  ∀ (pins : List (Addr × Obj)) (s : Shared) (σ : St) (H : Hp) (Q : Bool → Hp → Prop), Inv X pins σ H s → t σ H Q → wpAny (model X.prog X.w) X.A (isTrue e X.env (eval e X.env)) (TP X pins σ Q) X.xe s
def PW (X : Cx) (e : Expr) (t : TT) : Prop :=
  ∀ (whole : Sem Value) (pins : List (Addr × Obj)) (s : Shared) (σ : St) (H : Hp) (Q : Bool → Hp → Prop), Inv X pins σ H s → t σ H Q → wpAny (model X.prog X.w) X.A (isTrue e X.env whole) (TP X pins σ Q) X.xe s
theorem PW.pt {X : Cx} {e : Expr} {t : TT} (h : PW X e t) : PT X e t := h _
def PA (X : Cx) (es : List Expr) (t : TA) : Prop :=
  ∀ (pos : Pos) (pins : List (Addr × Obj)) (s : Shared) (σ : St) (H : Hp) (Q : List V → Hp → Prop), Inv X pins σ H s → t σ H Q → wpAny (model X.prog X.w) X.A (spliced (backTo pos (starEach es X.env))) (AP X pins σ Q) X.xe s
def PS (X : Cx) (st : Stmt) (t : TS) : Prop :=
  ∀ (pins : List (Addr × Obj)) (s : Shared) (σ : St) (H : Hp) (D : Ends), Inv X pins σ H s → t D σ H → wpAny (model X.prog X.w) X.A (exec st X.env) (SP X pins D) X.xe s
def PSs (X : Cx) (st : List Stmt) (t : TS) : Prop :=
  ∀ (pins : List (Addr × Obj)) (s : Shared) (σ : St) (H : Hp) (D : Ends), Inv X pins σ H s → t D σ H → wpAny (model X.prog X.w) X.A (execs st X.env) (SP X pins D) X.xe s
theorem thn {α : Type} {t : Sem α} {Q Q' : α → Shared → Prop} {M : Model} {A : Around} {E : Value → Shared → Prop} {s : Shared} (h : wpAny M A t Q E s) (hQ : ∀ a s, Q a s → Q' a s) : wpAny M A t Q' E s := wpAny_mono h hQ fun _ _ x => x
end L2
namespace L2
open PySem PySem.Spec PyProof.Rows
section
variable {X : Cx}
def tVar (i : Nat) : TE := fun σ H Q => ∃ v, σ[i]? = some (some v) ∧ Q v H
def tC (v : V) : TE := fun _ H Q => Q v H
theorem pe_var {i : Nat} {x : Str} {pos : Pos} (hN : X.N[i]? = some x) (hv : Vis X.env.scope x) (hd : (x == ("__debug__" : Str)) = false := by decide) (hcd : (x == ("__classdict__" : Str)) = false := by decide) : PE X (.Name x pos) (tVar i) := by
  intro pins s σ H Q I h
  obtain ⟨v, e, h⟩ := h
  obtain ⟨m, hn, hl⟩ := I.loc
  obtain ⟨u, r, l⟩ := hl i x v hN e hv
  have fin : EP X pins σ Q u s := ⟨v, H, I, r, h⟩
  rcases l with ⟨hk, hm⟩ | ⟨hk, c, hc, hcell⟩
  · exact wpAny_Name (wpAny_loadName_local I.ok.kind hk hn hm fin) hd
  · rcases hk with hk | hk
    · exact wpAny_Name (wpAny_loadName_cell I.ok.kind hk hc hcell fin) hd
    · exact wpAny_Name (wpAny_loadName_free I.ok.kind hk hc hcell fin hcd) hd
theorem pe_int {i j pos} : PE X (.Constant (.int i) j pos) (tC (.int i)) := fun _ _ _ H _ I h => wpAny_Constant_int ⟨.int i, H, I.tok _, ⟨_, rfl⟩, h⟩
theorem pe_bl {b j pos} : PE X (.Constant (.bool b) j pos) (tC (.bl b)) := fun _ _ _ H _ I h => Constant_bool ⟨.bl b, H, I, rfl, h⟩
theorem pe_str {x j pos} : PE X (.Constant (.str x) j pos) (tC (.str x)) := fun _ _ _ H _ I h => Calls.Constant_str ⟨.str x, H, I.tok _, ⟨_, rfl⟩, h⟩
def Gl (X : Cx) (x : Str) : Prop := X.env.kindOf x = some .globalImplicit
theorem ld_glob {E : Value → Shared → Prop} {pins : List (Addr × Obj)} {s : Shared} {σ : St} {H : Hp} {x : Str} {u : Value} {pos : Pos} {Q : Value → Shared → Prop} (I : Inv X pins σ H s) (hg : Gl X x) (hm : X.mg x = some u) (h : Q u s)
    (hd : (x == ("__debug__" : Str)) = false := by decide) : wpAny (model X.prog X.w) X.A (eval (.Name x pos) X.env) Q E s :=
  Calls.Name_function_global I.ok.kind hg (Calls.loadGlobal_global (by rw [I.ok.glob]; exact I.mod.glob.keeps I.bk) hm h) hd
theorem ld_blt {E : Value → Shared → Prop} {pins : List (Addr × Obj)} {s : Shared} {σ : St} {H : Hp} {x : Str} {u : Value} {pos : Pos} {Q : Value → Shared → Prop} (I : Inv X pins σ H s) (hg : Gl X x) (hm : X.mg x = none) (hv : bootBuiltins x = some u) (h : Q u s)
    (hn : x ≠ "__name__" := by decide) (hd : (x == ("__debug__" : Str)) = false := by decide) : wpAny (model X.prog X.w) X.A (eval (.Name x pos) X.env) Q E s := by
  obtain ⟨mb, h1, h2⟩ := I.mod.blt
  exact Calls.Name_function_global I.ok.kind hg (Calls.loadGlobal_builtin (by rw [I.ok.glob]; exact I.mod.glob.keeps I.bk) hm (by rw [I.ok.blt]; exact h1.keeps I.bk) ((h2 x hn).trans hv) h) hd
theorem pe_glob {x : Str} {v : V} {u : Value} {pos : Pos} (hg : Gl X x) (hm : X.mg x = some u) (r : RelV v u) (hd : (x == ("__debug__" : Str)) = false := by decide) : PE X (.Name x pos) (tC v) :=
  fun _ _ _ H _ I h => ld_glob I hg hm ⟨v, H, I, r, h⟩ hd
theorem pe_bltn {x : Str} {v : V} {u : Value} {pos : Pos} (hg : Gl X x) (hm : X.mg x = none) (hv : bootBuiltins x = some u) (r : RelV v u) (hn : x ≠ "__name__" := by decide) (hd : (x == ("__debug__" : Str)) = false := by decide) : PE X (.Name x pos) (tC v) :=
  fun _ _ _ H _ I h => ld_blt I hg hm hv ⟨v, H, I, r, h⟩ hn hd
variable {a b : Expr} {ta tb : TE} {pos : Pos}
def tB (t : TE) : TT := fun σ H Q => t σ H fun x H1 => ∃ c, x = .bl c ∧ Q c H1
theorem pt_val {e : Expr} {t : TE} (h : PE X e t) (he : ∀ whole, isTrue e X.env whole = (do let v ← whole; standAt e.pos; holding [v] (truthy v)) := by intro _; rfl) : PT X e (tB t) := by
  intro pins s σ H Q I hw
  refine isTrue_plain (thn (h pins s σ H _ I hw) fun v s1 ⟨x, H1, I1, r1, q1⟩ => ?_) (he _)
  obtain ⟨d, rfl, q⟩ := q1
  cases r1
  exact wpAny_truthy_bool ⟨H1, I1, q⟩
variable {tA tB' : TT} {rest : List Expr}
def tOr (t u : TT) : TT := fun σ H Q => t σ H fun c H1 => if c = true then Q true H1 else u σ H1 Q
def tNot (t : TT) : TT := fun σ H Q => t σ H fun c H1 => Q (!c) H1
theorem pw_or1 (ha : PT X a tA) : PW X (.BoolOp .Or [a] pos) tA := by
  intro wh pins s σ H Q I h
  refine isTrue_or (thn (ha pins s σ H Q I h) fun c s1 e => ?_)
  cases c with
  | false => exact isTrue_or_nil e
  | true => exact e
theorem pw_or (ha : PT X a tA) (hb : PW X (.BoolOp .Or (b :: rest) pos) tB') : PW X (.BoolOp .Or (a :: b :: rest) pos) (tOr tA tB') := by
  intro wh pins s σ H Q I h
  refine isTrue_or (thn (ha pins s σ H _ I h) fun c s1 ⟨H1, I1, q1⟩ => ?_)
  cases c with
  | true => exact ⟨H1, I1, q1⟩
  | false => exact hb wh pins s1 σ H1 Q I1 q1
theorem pt_not (ha : PT X a tA) : PT X (.UnaryOp .Not a pos) (tNot tA) := by
  intro pins s σ H Q I h
  exact isTrue_not (ha pins s σ H (fun c H1 => Q (!c) H1) I h)
end
end L2
namespace L2
open PySem PySem.Spec PyProof.Rows
def SqL (K : PySem.W.Frag) (H : Hp) (a : Addr) (xs : List V) : Prop :=
  Rd H a (.lst xs) ∨
    ∃ (o : Obj) (its : Array Value) (n : Nat), K.lookup a = some o ∧ o.cls = .type "list" ∧ o.dict = none ∧ o.data = .seq its n ∧ its.size ≤ sizeLine ∧ Vals xs its.toList
def SqT (K : PySem.W.Frag) (H : Hp) (a : Addr) (xs : List V) : Prop :=
  Rd H a (.tup xs) ∨
    ∃ (o : Obj) (its : Array Value) (n : Nat), K.lookup a = some o ∧ o.cls = .type "tuple" ∧ o.data = .seq its n ∧ (its.size ≤ sizeLine ∧ o.dict = none) ∧ Vals xs its.toList
def absV : Value → Option V
  | .none => some .non
  | .bool b => some (.bl b)
  | .int i _ => some (.int i)
  | .str x _ => some (.str x)
  | .bytes b _ => some (.byt b)
  | .float b _ => some (.flt b)
  | .ref a => some (.ref a)
  | .type n => some (.ty n)
  | _ => none
theorem RelV.abs {x : V} {u : Value} (r : RelV x u) : absV u = some x := by
  cases x with
  | non => cases r; rfl
  | bl _ => cases r; rfl
  | int _ => obtain ⟨t, rfl⟩ := r; rfl
  | str _ => obtain ⟨t, rfl⟩ := r; rfl
  | byt _ => obtain ⟨t, rfl⟩ := r; rfl
  | flt _ => obtain ⟨t, rfl⟩ := r; rfl
  | ref _ => cases r; rfl
  | ty _ => cases r; rfl
theorem RelV.inj {x y : V} {u : Value} (r : RelV x u) (q : RelV y u) : x = y := Option.some.inj (r.abs.symm.trans q.abs)
theorem Vals.inj : ∀ {xs ys : List V} {us : List Value}, Vals xs us → Vals ys us → xs = ys
  | _, _, _, .nil, .nil => rfl
  | _, _, _, .cons r t, .cons r' t' => by rw [r.inj r', Vals.inj t t']
section
variable {X : Cx} {pins : List (Addr × Obj)} {σ : St} {H : Hp} {s : Shared} {a : Addr} {xs ys : List V}
theorem SqL.of {K : PySem.W.Frag} (h : H a = some (.lst xs)) : SqL K H a xs := .inl (.inl h)
theorem SqT.of {K : PySem.W.Frag} (h : H a = some (.tup xs)) : SqT K H a xs := .inl (.inl h)
theorem Inv.list (I : Inv X pins σ H s) (h : SqL X.K H a xs) : ∃ its : List Value, Vals xs its ∧ PlainL s.heap a its.toArray ∧ xs.length ≤ sizeLine := by
  rcases h with h | ⟨o, its, n, hk, hc, hd, hs, hz, r⟩
  · obtain ⟨z, its, n, r, e⟩ := h.ok I.hok
    exact ⟨its, r, ⟨_, n, e, rfl, rfl, rfl⟩, z⟩
  · refine ⟨its.toList, r, ⟨o, n, I.kIn a o hk, hc, hd, by simpa using hs⟩, ?_⟩
    have e := r.length
    simp only [Array.length_toList] at e
    omega
theorem Inv.tuple (I : Inv X pins σ H s) (h : SqT X.K H a xs) : ∃ its : List Value, Vals xs its ∧ IsTup s.heap a its.toArray ∧ xs.length ≤ sizeLine := by
  rcases h with h | ⟨o, its, n, hk, hc, hs, hz, r⟩
  · obtain ⟨z, its, r, p⟩ := h.ok I.hok
    exact ⟨its, r, p, z.1⟩
  · refine ⟨its.toList, r, ⟨o, I.kIn a o hk, hc, n, by simpa using hs⟩, ?_⟩
    have e := r.length
    simp only [Array.length_toList] at e
    omega
theorem Inv.tupleD (I : Inv X pins σ H s) (h : SqT X.K H a xs) : NoD s.heap a := by
  rcases h with h | ⟨o, its, n, hk, hc, hs, hz, r⟩
  · obtain ⟨z, its, r, p⟩ := h.ok I.hok
    exact z.2
  · exact ⟨o, I.kIn a o hk, hz.2⟩
theorem NoD.new {h : Heap} {its : Array Value} {n : Nat} : NoD (h.push { cls := .type "tuple", data := .seq its n }) h.objs.size := ⟨_, Heap.get?_push_size _ rfl, rfl⟩
theorem Inv.list_inj (I : Inv X pins σ H s) (h : SqL X.K H a xs) (h' : SqL X.K H a ys) : xs = ys := by
  obtain ⟨its, r, ⟨o, n, e, _, _, d⟩, _⟩ := I.list h
  obtain ⟨its', r', ⟨o', n', e', _, _, d'⟩, _⟩ := I.list h'
  rw [e] at e'; cases e'
  rw [d] at d'
  injection d' with d1 _
  have : its = its' := by simpa using congrArg Array.toList d1
  subst this
  exact r.inj r'
theorem Inv.tuple_inj (I : Inv X pins σ H s) (h : SqT X.K H a xs) (h' : SqT X.K H a ys) : xs = ys := by
  obtain ⟨its, r, ⟨o, e, _, n, d⟩, _⟩ := I.tuple h
  obtain ⟨its', r', ⟨o', e', _, n', d'⟩, _⟩ := I.tuple h'
  rw [e] at e'; cases e'
  rw [d] at d'
  injection d' with d1 _
  have : its = its' := by simpa using congrArg Array.toList d1
  subst this
  exact r.inj r'
end
abbrev Cx.wish (X : Cx) (E : Value → Shared → Prop) : Cx := { X with xe := E }
abbrev Cx.nox (X : Cx) : Cx := X.wish fun _ _ => False
theorem Cx.Ok.wish {X : Cx} (ok : X.Ok) (E : Value → Shared → Prop) : (X.wish E).Ok :=
  ⟨ok.mod, ok.kind, ok.glob, ok.blt, ok.above, ok.inj, ok.has, ok.cab, ok.hd, ok.frames, ok.stk, ok.exf, ok.bs, ok.bsz, ok.noex, ok.exfs, ok.funs, ok.frf⟩
theorem Cx.Ok.unwish {X : Cx} {E : Value → Shared → Prop} (ok : (X.wish E).Ok) : X.Ok :=
  ⟨ok.mod, ok.kind, ok.glob, ok.blt, ok.above, ok.inj, ok.has, ok.cab, ok.hd, ok.frames, ok.stk, ok.exf, ok.bs, ok.bsz, ok.noex, ok.exfs, ok.funs, ok.frf⟩
section
variable {X : Cx} {pins : List (Addr × Obj)} {σ : St} {H : Hp} {s : Shared} {E : Value → Shared → Prop}
theorem Inv.wish (I : Inv X pins σ H s) (E : Value → Shared → Prop) : Inv (X.wish E) pins σ H s := ⟨I.ok.wish E, I.os, I.bare, I.base, I.loc, I.cell, I.free, I.freeC, I.pin, I.hok, I.len⟩
theorem Inv.unwish (I : Inv (X.wish E) pins σ H s) : Inv X pins σ H s := ⟨I.ok.unwish, I.os, I.bare, I.base, I.loc, I.cell, I.free, I.freeC, I.pin, I.hok, I.len⟩
theorem SP.unwish {D : Ends} {f : Flow} {s' : Shared} (h : SP (X.wish E) pins D f s') : SP X pins D f s' := by
  cases f with
  | next => obtain ⟨σ', H', I, q⟩ := h; exact ⟨σ', H', I.unwish, q⟩
  | brk => obtain ⟨σ', H', I, q⟩ := h; exact ⟨σ', H', I.unwish, q⟩
  | cont => obtain ⟨σ', H', I, q⟩ := h; exact ⟨σ', H', I.unwish, q⟩
  | ret u => obtain ⟨v, σ', H', I, r, q⟩ := h; exact ⟨v, σ', H', I.unwish, r, q⟩
theorem PSs.nox {st : List Stmt} {t : TS} (h : PSs X.nox st t) : PSs X st t := fun pins s σ H D I hw =>
  wpAny_mono (h pins s σ H D (I.wish _) hw) (fun _ _ q => q.unwish) fun _ _ z => False.elim z
end
section
variable {X : Cx} {st : Stmt} {rest : List Stmt} {t u : TS} {e : Expr} {te : TE} {pos : Pos}
def tNext : TS := fun D σ H => D.nx σ H
def tSeq (t u : TS) : TS := fun D σ H => t { D with nx := u D } σ H
theorem pss_nil : PSs X [] tNext := fun _ _ σ H _ I h => wpAny_execs_nil ⟨σ, H, I, h⟩
theorem pss_cons (h1 : PS X st t) (h2 : PSs X rest u) : PSs X (st :: rest) (tSeq t u) := by
  intro pins s σ H D I h
  refine wpAny_execs_cons (thn (h1 pins s σ H { D with nx := u D } I h) fun f s1 q => ?_)
  cases f with
  | next =>
    obtain ⟨σ', H', I', q⟩ := q
    exact h2 pins s1 σ' H' D I' q
  | ret v => exact q
  | brk => exact q
  | cont => exact q
theorem pss_one (h1 : PS X st t) : PSs X [st] t := by
  intro pins s σ H D I h
  refine wpAny_execs_cons (thn (h1 pins s σ H D I h) fun f s1 q => ?_)
  cases f with
  | next => exact wpAny_execs_nil q
  | ret v => exact q
  | brk => exact q
  | cont => exact q
theorem Inv.quiet {pins : List (Addr × Obj)} {σ : St} {H : Hp} {s : Shared} (I : Inv X pins σ H s) : interactive X.env = false := by simp [interactive, I.ok.kind]
def tDrop (te : TE) : TS := fun D σ H => te σ H fun _ H1 => D.nx σ H1
theorem ps_expr (he : PE X e te) (hs : swapsWith e none pos.line X.env = pure false := by rfl) : PS X (.Expr e pos) (tDrop te) := by
  intro pins s σ H D I h
  exact wpAny_Expr_any (thn (he pins s σ H _ I h) fun v s1 ⟨x, H1, I1, r1, q1⟩ => ⟨σ, H1, I1, q1⟩) I.quiet hs
def tRet (te : TE) : TS := fun D σ H => te σ H D.rt
theorem ps_ret (he : PE X e te) : PS X (.Return (some e) pos) (tRet te) := by
  intro pins s σ H D I h
  exact wpAny_Return_some (thn (he pins s σ H _ I h) fun v s1 ⟨x, H1, I1, r1, q1⟩ => ⟨x, σ, H1, I1, r1, q1⟩)
def tIfS (c : TT) (t u : TS) : TS := fun D σ H => c σ H fun b H1 => if b = true then t D σ H1 else u D σ H1
theorem ps_if {c : Expr} {a b : List Stmt} {tc : TT} (hc : PT X c tc) (ha : PSs X a t) (hb : PSs X b u) : PS X (.If c a b pos) (tIfS tc t u) := by
  intro pins s σ H D I h
  refine wpAny_If (thn (hc pins s σ H _ I h) fun d s1 ⟨H1, I1, q1⟩ => ?_)
  cases d with
  | true => exact ha pins s1 σ H1 D I1 q1
  | false => exact hb pins s1 σ H1 D I1 q1
def tNever : TS := fun _ _ _ => False
theorem ps_never : PS X st tNever := fun _ _ _ _ _ _ h => h.elim
end
abbrev TG := V → St → Hp → (St → Hp → Prop) → Prop
abbrev TGs := List V → St → Hp → (St → Hp → Prop) → Prop
def PG (X : Cx) (target : Expr) (t : TG) : Prop :=
  ∀ (pins : List (Addr × Obj)) (s : Shared) (σ : St) (H : Hp) (v : V) (u : Value) (Q : St → Hp → Prop), Inv X pins σ H s → RelV v u → t v σ H Q →
    wpAny (model X.prog X.w) X.A (assign target X.env u) (fun _ s' => ∃ σ' H', Inv X pins σ' H' s' ∧ Q σ' H') X.xe s
def PGs (X : Cx) (ts : List Expr) (t : TGs) : Prop :=
  ∀ (pins : List (Addr × Obj)) (s : Shared) (σ : St) (H : Hp) (vs : List V) (us : List Value) (Q : St → Hp → Prop), Inv X pins σ H s → Vals vs us → t vs σ H Q →
    wpAny (model X.prog X.w) X.A (assignInOrder ((assignEach ts X.env).map (·.2)) us) (fun _ s' => ∃ σ' H', Inv X pins σ' H' s' ∧ Q σ' H') X.xe s
section
variable {X : Cx} {pos : Pos}
def gName (i : Nat) : TG := fun v σ H Q => Q (σ.set i (some v)) H
theorem pg_name {i : Nat} {x : Str} (hN : X.N.Nodup) (hi : X.N[i]? = some x) (hx : Loc X.env.scope x) (hf : X.fn x = true ∨ X.env.scope.names.lookup x = some .local := by first | exact .inl rfl | exact .inr rfl | assumption) : PG X (.Name x pos) (gName i) := by
  intro pins s σ H v u Q I r h
  exact wpAny_assign_Name (store_ok I hN hi hx r (fun s' I' => ⟨_, H, I', h⟩) hf)
def gNil : TGs := fun vs σ H Q => vs = [] ∧ Q σ H
def gCons (t : TG) (u : TGs) : TGs := fun vs σ H Q => ∃ v r, vs = v :: r ∧ t v σ H fun σ' H' => u r σ' H' Q
theorem pgs_nil : PGs X [] gNil := by
  intro pins s σ H vs us Q I r h
  obtain ⟨e, h⟩ := h
  subst e
  cases r
  exact assignInOrder_nil ⟨σ, H, I, h⟩
theorem pgs_cons {e : Expr} {es : List Expr} {t : TG} {u : TGs} (h1 : PG X e t) (h2 : PGs X es u)
    (hs : (assignEach (e :: es) X.env).map (·.2) = assign e X.env :: (assignEach es X.env).map (·.2) := by rfl) : PGs X (e :: es) (gCons t u) := by
  intro pins s σ H vs us Q I r h
  obtain ⟨v, vr, e1, h⟩ := h
  subst e1
  cases r with
  | cons r rr =>
    rw [hs]
    refine assignInOrder_cons (thn (h1 pins s σ H _ _ _ I r h) fun _ s1 ⟨σ1, H1, I1, q1⟩ => ?_)
    exact h2 pins s1 σ1 H1 _ _ Q I1 rr q1
def gTup (K : PySem.W.Frag) (n : Nat) (t : TGs) : TG := fun v σ H Q => ∃ a xs, v = .ref a ∧ SqT K H a xs ∧ xs.length = n ∧ t xs σ H Q
theorem pg_tup {es : List Expr} {k : Nat} {t : TGs} {n : Nat} (hc : X.calm = true) (h : PGs X es t)
    (hn : (assignEach es X.env).length = n := by rfl) (hst : (assignEach es X.env).findIdx? (·.1) = none := by rfl) : PG X (.Tuple es k pos) (gTup X.K n t) := by
  intro pins s σ H v u Q I r hw
  obtain ⟨a, xs, e1, hq, hl, hw⟩ := hw
  subst e1
  cases r
  obtain ⟨its, rv, ht, hz⟩ := I.tuple hq
  refine assign_Tuple_tuple (I.ok.hd hc) ht (by simp [hn, ← hl, rv.length]) hst fun h' hx => ?_
  have I1 : Inv X pins σ H { s with heap := h' } := I.kept (t' := s.toks) fun b o e => hx b o (Nat.ne_of_lt (Heap.lt_size e)) e
  exact h pins _ σ H xs _ Q I1 (by simpa using rv) hw
def tAsg (te : TE) (g : TG) : TS := fun D σ H => te σ H fun x H1 => g x σ H1 D.nx
theorem ps_asg {tg e : Expr} {te : TE} {g : TG} (he : PE X e te) (hg : PG X tg g) (hs : swapsWithSole [tg] e pos.line X.env = pure false := by rfl) (hw : swappedStores [tg] e X.env = pure none := by rfl)
    (h1 : (assignEach [tg] X.env).map (·.2) = [assign tg X.env] := by rfl) : PS X (.Assign [tg] e pos) (tAsg te g) := by
  intro pins s σ H D I h
  refine wpAny_Assign_stores (thn (he pins s σ H _ I h) fun v s1 ⟨x, H1, I1, r1, q1⟩ => ?_) hs hw
  rw [h1]
  exact thn (hg pins s1 σ H1 x v _ I1 r1 q1) fun _ s2 q => q
theorem ps_set {i : Nat} {x : Str} {e : Expr} {te : TE} {pos' : Pos} (hN : X.N.Nodup) (hi : X.N[i]? = some x) (hx : Loc X.env.scope x) (he : PE X e te) (hs : swapsWith e (some (.Name x pos')) pos.line X.env = pure false := by rfl) (hf : X.fn x = true ∨ X.env.scope.names.lookup x = some .local := by first | exact .inl rfl | exact .inr rfl | assumption) :
    PS X (.Assign [.Name x pos'] e pos) (tAsg te (gName i)) := by
  intro pins s σ H D I h
  refine wpAny_Assign_Name (thn (he pins s σ H _ I h) fun v s1 ⟨y, H1, I1, r1, q1⟩ => ?_) hs
  exact store_ok I1 hN hi hx r1 (fun s2 I2 => ⟨_, H1, I2, q1⟩) hf
end
section
variable {X : Cx} {pos : Pos}
def tWhile (c : TT) (tb : TS) : TS := fun D σ H => ∃ W : Nat → St → Hp → Prop, (∃ m, W m σ H) ∧ ∀ m σ H, W m σ H →
  c σ H fun b H1 => if b = true then ∃ N : St → Hp → Prop, (∀ σ' H', N σ' H' → ∃ m', m' < m ∧ W m' σ' H') ∧ tb { D with nx := N, ct := N, bk := D.nx } σ H1 else D.nx σ H1
theorem ps_while {c : Expr} {body : List Stmt} {tc : TT} {tb : TS} (hp : PassesOwn (model X.prog X.w) X.A X.env X.xe) (hc : PT X c tc) (hb : PSs X body tb) : PS X (.While c body [] pos) (tWhile tc tb) := by
  intro pins s σ H D I h
  obtain ⟨W, ⟨m0, w0⟩, turn⟩ := h
  refine wpAny_While (codeAny_whileLoop (fun n s' => ∃ σ' H', Inv X pins σ' H' s' ∧ W n σ' H') ?_ m0 ⟨σ, H, I, w0⟩)
  rintro n s1 ⟨σ1, H1, I1, w1⟩
  refine wpAny_passesOwn hp (thn (hc pins s1 σ1 H1 _ I1 (turn n σ1 H1 w1)) fun b s2 ⟨H2, I2, q2⟩ => ?_)
  cases b with
  | true =>
    obtain ⟨N, hN, q2⟩ := q2
    rw [if_pos rfl]
    refine wpAny_passesOwn hp (thn (hb pins s2 σ1 H2 _ I2 q2) fun f s3 q3 => ?_)
    cases f with
    | next =>
      obtain ⟨σ3, H3, I3, n3⟩ := q3
      obtain ⟨m', hm, w3⟩ := hN σ3 H3 n3
      exact ⟨m', hm, σ3, H3, I3, w3⟩
    | cont =>
      obtain ⟨σ3, H3, I3, n3⟩ := q3
      obtain ⟨m', hm, w3⟩ := hN σ3 H3 n3
      exact ⟨m', hm, σ3, H3, I3, w3⟩
    | brk => exact q3
    | ret v => exact q3
  | false =>
    rw [if_neg Bool.false_ne_true]
    exact wpAny_execs_nil ⟨σ1, H2, I2, q2⟩
end
structure It where
  go : Nat → Hp → Prop
  yld : Nat → Hp → V → Hp → Prop
  stop : Nat → Hp → Prop
def FpOk (X : Cx) (pins : List (Addr × Obj)) (H : Hp) (b : Addr) : Prop :=
  H b = none ∧ b ≠ X.env.locals ∧ b ∉ X.fs ∧ (b ∈ X.ex ∨ X.s₀.heap.objs.size ≤ b) ∧ (∀ x c, X.env.cells.lookup x = some c → c ≠ b) ∧ ∀ p ∈ X.pn ++ pins, p.1 ≠ b
theorem Inv.fpOk {X : Cx} {pins : List (Addr × Obj)} {σ : St} {H H' : Hp} {s : Shared} {b : Addr} (I : Inv X pins σ H s) (hb : s.heap.objs.size ≤ b) (hn : H' b = none) : FpOk X pins H' b := by
  refine ⟨hn, Nat.ne_of_gt (Nat.lt_of_lt_of_le I.lt hb), I.nofs hb, .inr (Nat.le_trans I.sz hb), fun x c e z => ?_, fun p hp z => ?_⟩
  · obtain ⟨v, q⟩ := I.cell x c e
    exact absurd (Nat.lt_of_lt_of_le q.lt (by rw [z]; exact hb)) (Nat.lt_irrefl _)
  · exact absurd (Nat.lt_of_lt_of_le (Heap.lt_size (I.pin p hp).1) (by rw [z]; exact hb)) (Nat.lt_irrefl _)
structure Turn (P : Program) (w : World) (K : PySem.W.Frag) (tg : Expr) (J : It) (fp : List Addr) (it : Addr) (tn : Nat → Heap → Prop) : Prop where
  mem : it ∈ fp
  obj : ∀ i h, tn i h → ∀ b ∈ fp, ∃ o, h.get? b = some o ∧ ∀ v, o.data ≠ .cell v
  keep : ∀ i h h', tn i h → (∀ b ∈ fp, ∀ o, h.get? b = some o → h'.get? b = some o) → tn i h'
  item : ∀ (X : Cx), X.prog = P → X.w = w → X.K = K → X.calm = true → ∀ (i : Nat) (pins : List (Addr × Obj)) (s : Shared) (σ : St) (H : Hp) (E : Value → Shared → Prop), Inv X pins σ H s → (∀ b ∈ fp, FpOk X pins H b) → tn i s.heap → J.go i H →
    wpAny (model P w) X.A (pyNext (.ref it)) (fun r s1 => ∃ u, r = some u ∧
      wpAny (model P w) X.A (letOwnedTupleGo tg (.ref it) u) (fun _ s2 => ∃ x H', Inv X pins σ H' s2 ∧ RelV x u ∧ J.yld i H x H' ∧ tn (i + 1) s2.heap ∧ ∀ b ∈ fp, H' b = none) E s1) E s
  done : ∀ (X : Cx), X.prog = P → X.w = w → X.K = K → X.calm = true → ∀ (i : Nat) (pins : List (Addr × Obj)) (s : Shared) (σ : St) (H : Hp) (E : Value → Shared → Prop), Inv X pins σ H s → (∀ b ∈ fp, FpOk X pins H b) → tn i s.heap → J.stop i H →
    wpAny (model P w) X.A (pyNext (.ref it)) (fun r s1 => r = none ∧ Inv X pins σ H s1) E s
  self : ∀ (A : Around) (i : Nat) (s : Shared) (Q : Value → Shared → Prop) (E : Value → Shared → Prop), tn i s.heap → Q (.ref it) s → wpAny (model P w) A (pyIter (.ref it)) Q E s
abbrev TI := St → Hp → (It → Hp → Prop) → Prop
def PIE (X : Cx) (pins : List (Addr × Obj)) (σ : St) (tg : Expr) (R : It → Hp → Prop) (itv : Value) (s2 : Shared) : Prop :=
  ∃ (it : Addr) (fp : List Addr) (tn : Nat → Heap → Prop) (J : It) (H' : Hp), itv = .ref it ∧ Inv X pins σ H' s2 ∧ Turn X.prog X.w X.K tg J fp it tn ∧ tn 0 s2.heap ∧ (∀ b ∈ fp, FpOk X pins H' b) ∧ R J H'
def PI (X : Cx) (tg iter : Expr) (wi : TI) : Prop :=
  ∀ (pins : List (Addr × Obj)) (s : Shared) (σ : St) (H : Hp) (R : It → Hp → Prop), Inv X pins σ H s → wi σ H R →
    wpAny (model X.prog X.w) X.A (eval iter X.env) (fun v s1 => wpAny (model X.prog X.w) X.A (pyIter v) (PIE X pins σ tg R) X.xe s1) X.xe s
theorem go_of {M : Model} {A : Around} {E : Value → Shared → Prop} {s : Shared} {tg : Expr} {it : Addr} {u : Value} {o : Obj} {n : String} {vs : Array Value} {Q : Unit → Shared → Prop} (ho : s.heap.get? it = some o) (hc : o.cls = .type n) (hd : o.data = .fields vs)
    (hn : ["enumerate", "zip", "dict_itemiterator", "dict_reverseitemiterator", "odict_iterator", "itertools.zip_longest", "itertools.pairwise"].contains n = false) (hQ : Q () s) : wpAny M A (letOwnedTupleGo tg (.ref it) u) Q E s := by
  unfold letOwnedTupleGo
  cases tg <;> first
    | exact wpAny_pure hQ
    | (cases u <;> first
        | exact wpAny_pure hQ
        | (refine wpAny_bind (wpAny_load ho ?_)
           rw [hc, hd]
           show wpAny M A (if (["enumerate", "zip", "dict_itemiterator", "dict_reverseitemiterator", "odict_iterator", "itertools.zip_longest", "itertools.pairwise"].contains n && vs[0]? == some (rawInt _)) = true then _ else _) Q E s
           rw [if_neg (by intro h; rw [hn, Bool.false_and] at h; cases h)]
           exact wpAny_pure hQ))
def Itl (K : PySem.W.Frag) (a : Addr) : It :=
  ⟨fun i H => ∃ xs x, SqL K H a xs ∧ xs[i]? = some x, fun i H x H' => H' = H ∧ ∀ xs, SqL K H a xs → xs[i]? = some x, fun i H => ∃ xs, SqL K H a xs ∧ xs.length ≤ i⟩
def Itt (K : PySem.W.Frag) (a : Addr) : It :=
  ⟨fun i H => ∃ xs x, SqT K H a xs ∧ xs[i]? = some x, fun i H x H' => H' = H ∧ ∀ xs, SqT K H a xs → xs[i]? = some x, fun i H => ∃ xs, SqT K H a xs ∧ xs.length ≤ i⟩
def Itr (lo : Int) (n : Nat) : It := ⟨fun i _ => i < n, fun i H x H' => H' = H ∧ x = .int (lo + i), fun i _ => n ≤ i⟩
theorem turn_list {P : Program} {w : World} {K : PySem.W.Frag} {tg : Expr} (a it : Addr) : Turn P w K tg (Itl K a) [it] it (fun i h => h.IsListIter it a i) where
  mem := by simp
  obj := fun i h st b hb => by
    have e : b = it := by simpa using hb
    subst e
    obtain ⟨o, e, c, d⟩ := st
    exact ⟨o, e, fun v z => by rw [d] at z; cases z⟩
  keep := fun i h h' st k => st.at fun o e => k it (by simp) o e
  item := by
    intro X hP hw hK hc i pins s σ H E I hf st hg
    subst hP hw hK
    obtain ⟨xs, x, hq, hx⟩ := hg
    obtain ⟨its, rv, p, hz⟩ := I.list hq
    obtain ⟨u, hu, ru⟩ := rv.get hx
    obtain ⟨f0, f1, f2, f3, f4, f5⟩ := hf it (by simp)
    refine wpAny_pyNext_list_item st p.isList (x := u) (by simpa using hu) fun h' st' sb => ?_
    have I1 : Inv X pins σ H { s with heap := h' } := I.turned (t' := s.toks) (fun b o hb e => (sb.2 b hb).trans e) f0 f1 f3 f4 f5
    obtain ⟨o, e, c, d⟩ := id st'
    exact ⟨u, rfl, go_of (s := { s with heap := h' }) e c d (by decide) ⟨x, H, I1, ru, ⟨rfl, fun ys hy => by rw [I.list_inj hy hq]; exact hx⟩, st', fun b hb => (hf b hb).1⟩⟩
  done := by
    intro X hP hw hK hc i pins s σ H E I hf st hg
    subst hP hw hK
    obtain ⟨xs, hq, hx⟩ := hg
    obtain ⟨its, rv, p, hz⟩ := I.list hq
    obtain ⟨f0, f1, f2, f3, f4, f5⟩ := hf it (by simp)
    have hl := rv.length
    exact wpAny_pyNext_list_end (I.ok.hd hc) st p.isList (by simp; omega) fun h' eb => ⟨rfl, I.turned (t' := s.toks) (fun b o hb e => eb b o hb e) f0 f1 f3 f4 f5⟩
  self := fun _ _ _ _ _ st h => wpAny_pyIter_listiter st h
theorem turn_tuple {P : Program} {w : World} {K : PySem.W.Frag} {tg : Expr} (a it : Addr) : Turn P w K tg (Itt K a) [it] it (fun i h => h.IsTupleIter it a i) where
  mem := by simp
  obj := fun i h st b hb => by
    have e : b = it := by simpa using hb
    subst e
    obtain ⟨o, e, c, d⟩ := st
    exact ⟨o, e, fun v z => by rw [d] at z; cases z⟩
  keep := fun i h h' st k => st.at fun o e => k it (by simp) o e
  item := by
    intro X hP hw hK hc i pins s σ H E I hf st hg
    subst hP hw hK
    obtain ⟨xs, x, hq, hx⟩ := hg
    obtain ⟨its, rv, p, hz⟩ := I.tuple hq
    obtain ⟨u, hu, ru⟩ := rv.get hx
    obtain ⟨f0, f1, f2, f3, f4, f5⟩ := hf it (by simp)
    refine wpAny_pyNext_tuple_item st (show s.heap.IsTuple a its.toArray from p) (x := u) (by simpa using hu) fun h' st' sb => ?_
    have I1 : Inv X pins σ H { s with heap := h' } := I.turned (t' := s.toks) (fun b o hb e => (sb.2 b hb).trans e) f0 f1 f3 f4 f5
    obtain ⟨o, e, c, d⟩ := id st'
    exact ⟨u, rfl, go_of (s := { s with heap := h' }) e c d (by decide) ⟨x, H, I1, ru, ⟨rfl, fun ys hy => by rw [I.tuple_inj hy hq]; exact hx⟩, st', fun b hb => (hf b hb).1⟩⟩
  done := by
    intro X hP hw hK hc i pins s σ H E I hf st hg
    subst hP hw hK
    obtain ⟨xs, hq, hx⟩ := hg
    obtain ⟨its, rv, p, hz⟩ := I.tuple hq
    obtain ⟨f0, f1, f2, f3, f4, f5⟩ := hf it (by simp)
    have hl := rv.length
    exact wpAny_pyNext_tuple_end (I.ok.hd hc) st (show s.heap.IsTuple a its.toArray from p) (by simp; omega) fun h' eb => ⟨rfl, I.turned (t' := s.toks) (fun b o hb e => eb b o hb e) f0 f1 f3 f4 f5⟩
  self := fun _ _ _ _ _ st h => wpAny_pyIter_tupleiter st h
theorem turn_range {P : Program} {w : World} {K : PySem.W.Frag} {tg : Expr} (it : Addr) (lo : Int) (n : Nat) : Turn P w K tg (Itr lo n) [it] it (fun i h => IsRangeIter h it (lo + (i : Nat) * 1) ((n : Int) - (i : Nat)) 1) where
  mem := by simp
  obj := fun i h st b hb => by
    have e : b = it := by simpa using hb
    subst e
    exact ⟨_, st, fun v z => by
      have z' : Data.fields _ = Data.cell v := z
      cases z'⟩
  keep := fun i h h' st k => k it (by simp) _ st
  item := by
    intro X hP hw hK hc i pins s σ H E I hf st hg
    subst hP hw hK
    obtain ⟨f0, f1, f2, f3, f4, f5⟩ := hf it (by simp)
    have W := Walks.range (prog := X.prog) (w := X.w) (I.ok.hd hc) it lo 1 n
    refine W.item i s _ _ hg st fun v h' tk hv st' kk => ?_
    obtain ⟨t, rfl⟩ := hv
    have I1 : Inv X pins σ H { s with heap := h', toks := tk } := I.turned (fun b o hb e => kk b o (by simpa using hb) e) f0 f1 f3 f4 f5
    refine ⟨_, rfl, go_of (s := { s with heap := h', toks := tk }) (n := "range_iterator") st' rfl rfl (by decide) ⟨.int (lo + i), H, I1, ⟨t, ?_⟩, ⟨rfl, rfl⟩, st', fun b hb => (hf b hb).1⟩⟩
    rw [Int.mul_one]
  done := by
    intro X hP hw hK hc i pins s σ H E I hf st hg
    subst hP hw hK
    obtain ⟨f0, f1, f2, f3, f4, f5⟩ := hf it (by simp)
    exact wpAny_pyNext_range_end (I.ok.hd hc) st (by have : n ≤ i := hg; omega) fun h' eb => ⟨rfl, I.turned (t' := s.toks) (fun b o hb e => eb b o hb e) f0 f1 f3 f4 f5⟩
  self := fun _ _ _ _ _ st h => wpAny_pyIter_rangeiter st h
end L2
namespace L2
open PySem PySem.Spec PyProof.Rows
section
variable {X : Cx} {tg : Expr}
def iList (K : PySem.W.Frag) (tl : TE) : TI := fun σ H R => tl σ H fun x H1 => ∃ a, x = .ref a ∧ (∃ xs, SqL K H1 a xs) ∧ R (Itl K a) H1
def iTup (K : PySem.W.Frag) (tl : TE) : TI := fun σ H R => tl σ H fun x H1 => ∃ a, x = .ref a ∧ (∃ xs, SqT K H1 a xs) ∧ R (Itt K a) H1
theorem pi_list {l : Expr} {tl : TE} (hl : PE X l tl) : PI X tg l (iList X.K tl) := by
  intro pins s σ H R I h
  refine thn (hl pins s σ H _ I h) fun v s1 ⟨x, H1, I1, r1, q1⟩ => ?_
  obtain ⟨a, e, ⟨xs, hq⟩, q⟩ := q1
  subst e
  cases r1
  obtain ⟨its, rv, p, hz⟩ := I1.list hq
  refine wpAny_pyIter_list p.isList ?_
  refine ⟨s1.heap.objs.size, [s1.heap.objs.size], _, _, H1, rfl, I1.kept (t' := s1.toks) fun b o e => Heap.get?_push_of_some _ e, turn_list a _, ⟨_, Heap.get?_push_size _ rfl, rfl, rfl⟩, fun b hb => ?_, q⟩
  have e : b = s1.heap.objs.size := by simpa using hb
  subst e
  exact I1.fpOk (Nat.le_refl _) (I1.hok.fresh (Nat.le_refl _))
theorem pi_tup {l : Expr} {tl : TE} (hl : PE X l tl) : PI X tg l (iTup X.K tl) := by
  intro pins s σ H R I h
  refine thn (hl pins s σ H _ I h) fun v s1 ⟨x, H1, I1, r1, q1⟩ => ?_
  obtain ⟨a, e, ⟨xs, hq⟩, q⟩ := q1
  subst e
  cases r1
  obtain ⟨its, rv, p, hz⟩ := I1.tuple hq
  refine wpAny_pyIter_tuple (show s1.heap.IsTuple a its.toArray from p) ?_
  refine ⟨s1.heap.objs.size, [s1.heap.objs.size], _, _, H1, rfl, I1.kept (t' := s1.toks) fun b o e => Heap.get?_push_of_some _ e, turn_tuple a _, ⟨_, Heap.get?_push_size _ rfl, rfl, rfl⟩, fun b hb => ?_, q⟩
  have e : b = s1.heap.objs.size := by simpa using hb
  subst e
  exact I1.fpOk (Nat.le_refl _) (I1.hok.fresh (Nat.le_refl _))
theorem range_it {pins : List (Addr × Obj)} {σ : St} {H : Hp} {s : Shared} {R : It → Hp → Prop} {E : Value → Shared → Prop} {lo hi : Int} {t u v : Tok} {tk : Nat} (I : Inv X pins σ H s) (h1 : -(2 ^ 62) ≤ lo) (h2 : lo < 2 ^ 62) (h3 : -(2 ^ 62) ≤ hi) (h4 : hi < 2 ^ 62)
    (q : R (Itr lo (hi - lo).toNat) H) : wpAny (model X.prog X.w) X.A (pyIter (.ref s.heap.objs.size)) (PIE X pins σ tg R) E { s with heap := s.heap.push { cls := .type "range", data := .fields #[.int lo t, .int hi u, .int 1 v] }, toks := tk } := by
  refine wpAny_pyIter_range (IsRange.new ..) (small_one h1 h2 h3 h4) ?_
  have I1 : Inv X pins σ H { s with heap := s.heap.push { cls := .type "range", data := .fields #[.int lo t, .int hi u, .int 1 v] }, toks := tk } := I.kept fun b o e => Heap.get?_push_of_some _ e
  refine ⟨(s.heap.push { cls := .type "range", data := .fields #[.int lo t, .int hi u, .int 1 v] }).objs.size, [(s.heap.push { cls := .type "range", data := .fields #[.int lo t, .int hi u, .int 1 v] }).objs.size], _, _, H, rfl,
    I1.kept (t' := tk) fun b o e => Heap.get?_push_of_some _ e, turn_range _ lo (hi - lo).toNat, ?_, fun b hb => ?_, q⟩
  · have e1 : lo + ((0 : Nat) : Int) * 1 = lo := by simp
    have e2 : (((hi - lo).toNat : Nat) : Int) - ((0 : Nat) : Int) = Builtin.Range.rangeSize lo hi 1 := by rw [rangeSize_one]; split <;> omega
    show IsRangeIter _ _ (lo + ((0 : Nat) : Int) * 1) ((((hi - lo).toNat : Nat) : Int) - ((0 : Nat) : Int)) 1
    rw [e1, e2]
    exact Heap.get?_push_size _ rfl
  · have e : b = (s.heap.push { cls := .type "range", data := .fields #[.int lo t, .int hi u, .int 1 v] }).objs.size := by simpa using hb
    subst e
    exact I1.fpOk (Nat.le_refl _) (I1.hok.fresh (Nat.le_refl _))
def iRng1 (ta : TA) : TI := fun σ H R => ta σ H fun vs H1 => ∃ j : Int, vs = [.int j] ∧ -(2 ^ 62) ≤ j ∧ j < 2 ^ 62 ∧ R (Itr 0 j.toNat) H1
theorem pi_range1 {a : Expr} {ta : TA} {p pos : Pos} (hg : Gl X "range") (hm : X.mg "range" = none) (ha : PA X [a] ta) (hs : starEach [a] X.env = [(false, eval a X.env)] := by rfl) : PI X tg (.Call (.Name "range" p) [a] [] pos) (iRng1 ta) := by
  intro pins s σ H R I h
  refine Call_ (ld_blt I hg hm boot_range (PyProof.Rows.callWith_type1 (thn (ha pos pins s σ H _ I h) fun us s1 ⟨vs, H1, I1, r1, q1⟩ => ?_) hs rfl))
  obtain ⟨j, e, q1, q2, q⟩ := q1
  subst e
  cases r1 with
  | cons r rr =>
    cases rr
    obtain ⟨t, rfl⟩ := r
    exact call_range_1 (range_it I1 (by omega) (by omega) q1 q2 (by simpa using q))
def tFor (wi : TI) (g : TG) (tb : TS) : TS := fun D σ H => wi σ H fun J H1 => ∃ W : Nat → Nat → St → Hp → Prop, (∃ m, W 0 m σ H1) ∧ ∀ i m σ H, W i m σ H →
  (J.stop i H ∧ D.nx σ H) ∨ (J.go i H ∧ ∃ N : St → Hp → Prop, (∀ σ' H', N σ' H' → ∃ m', m' < m ∧ W (i + 1) m' σ' H') ∧ ∀ x H', J.yld i H x H' → g x σ H' fun σ2 H2 => tb { D with nx := N, ct := N, bk := D.nx } σ2 H2)
def pinsAt (fp : List Addr) (h : Heap) : List (Addr × Obj) := fp.filterMap fun b => (h.get? b).map fun o => (b, o)
theorem mem_pinsAt {fp : List Addr} {h : Heap} {b : Addr} {o : Obj} (hb : b ∈ fp) (e : h.get? b = some o) : (b, o) ∈ pinsAt fp h := List.mem_filterMap.mpr ⟨b, hb, by rw [e]; rfl⟩
theorem of_pinsAt {fp : List Addr} {h : Heap} {p : Addr × Obj} (hp : p ∈ pinsAt fp h) : p.1 ∈ fp ∧ h.get? p.1 = some p.2 := by
  obtain ⟨b, hb, e⟩ := List.mem_filterMap.mp hp
  cases q : h.get? b with
  | none => rw [q] at e; cases e
  | some o =>
    rw [q] at e
    have e' : (b, o) = p := Option.some.inj e
    subst e'
    exact ⟨hb, q⟩
theorem Inv.pinned {pins : List (Addr × Obj)} {σ : St} {H : Hp} {s : Shared} {fp : List Addr} (I : Inv X pins σ H s) (hf : ∀ b ∈ fp, FpOk X pins H b) (ho : ∀ b ∈ fp, ∃ o, s.heap.get? b = some o ∧ ∀ v, o.data ≠ .cell v) : Inv X (pins ++ pinsAt fp s.heap) σ H s :=
  I.pins_of fun p hp => (List.mem_append.mp hp).elim (fun z => I.pin p (List.mem_append_right _ z)) fun z => by
    obtain ⟨hb, e⟩ := of_pinsAt z
    obtain ⟨f0, f1, f2, _⟩ := hf p.1 hb
    obtain ⟨o, e', d⟩ := ho p.1 hb
    rw [e] at e'; cases e'
    exact ⟨e, f0, f1, f2, d⟩
theorem Inv.unpinned {pins pl : List (Addr × Obj)} {σ : St} {H : Hp} {s : Shared} (I : Inv X (pins ++ pl) σ H s) : Inv X pins σ H s := I.pins_of fun p hp => I.pin p (List.mem_append_right _ (List.mem_append_left _ hp))
theorem ps_for {iter : Expr} {body : List Stmt} {wi : TI} {g : TG} {tb : TS} {pos : Pos} (hp : PassesOwn (model X.prog X.w) X.A X.env X.xe) (hc : X.calm = true) (hi : PI X tg iter wi) (hg : PG X tg g) (hb : PSs X body tb)
    (hs : ∀ x, foldedSetIterable iter X.env x = pure x := by intro _; rfl) : PS X (.For tg iter body [] pos) (tFor wi g tb) := by
  intro pins s σ H D I h
  refine wpAny_For (thn (hi pins s σ H _ I h) fun v s1 h1 => thn h1 fun itv s2 h2 => ?_) hs
  obtain ⟨it, fp, tn, J, H2, e, I2, T, st2, f2, W, ⟨m0, w0⟩, turn⟩ := h2
  subst e
  have stat : ∀ {H' : Hp}, (∀ b ∈ fp, H' b = none) → ∀ b ∈ fp, FpOk X pins H' b := fun hn b hb => ⟨hn b hb, (f2 b hb).2⟩
  refine codeAny_forLoop_any (fun n s' => ∃ i σ' H', Inv X pins σ' H' s' ∧ tn i s'.heap ∧ (∀ b ∈ fp, H' b = none) ∧ W i n σ' H') ?_ m0 ⟨0, σ, H2, I2, st2, fun b hb => (f2 b hb).1, w0⟩
  rintro n s3 ⟨i, σ3, H3, I3, st3, fr3, w3⟩
  rcases turn i n σ3 H3 w3 with ⟨stop, qn⟩ | ⟨go, N, hN, step⟩
  · refine wpAny_passesOwn hp (thn (T.done X rfl rfl rfl hc i pins s3 σ3 H3 X.xe I3 (stat fr3) st3 stop) fun r s4 ⟨hr, I4⟩ => ?_)
    subst hr
    exact wpAny_execs_nil ⟨σ3, H3, I4, qn⟩
  · refine wpAny_passesOwn hp (thn (T.item X rfl rfl rfl hc i pins s3 σ3 H3 X.xe I3 (stat fr3) st3 go) fun r s4 ⟨u, hr, h4⟩ => ?_)
    subst hr
    refine wpAny_passesOwn hp (thn h4 fun _ s5 ⟨x, H5, I5, r5, y5, st5, fr5⟩ => ?_)
    have I5' := I5.pinned (stat fr5) (T.obj _ _ st5)
    refine wpAny_passesOwn hp (thn (hg _ s5 σ3 H5 x u _ I5' r5 (step x H5 y5)) fun _ s6 ⟨σ6, H6, I6, q6⟩ => ?_)
    refine wpAny_passesOwn hp (thn (hb _ s6 σ6 H6 _ I6 q6) fun f s7 q7 => ?_)
    have again : ∀ {σ7 : St} {H7 : Hp}, Inv X (pins ++ pinsAt fp s5.heap) σ7 H7 s7 → N σ7 H7 → ∃ m, m < n ∧ ∃ i σ' H', Inv X pins σ' H' s7 ∧ tn i s7.heap ∧ (∀ b ∈ fp, H' b = none) ∧ W i m σ' H' := fun {σ7 H7} I7 n7 => by
      obtain ⟨m', hm, w7⟩ := hN σ7 H7 n7
      refine ⟨m', hm, i + 1, σ7, H7, I7.unpinned, T.keep _ _ _ st5 fun b hb o e => (I7.pin (b, o) (List.mem_append_right _ (List.mem_append_right _ (mem_pinsAt hb e)))).1, fun b hb => ?_, w7⟩
      obtain ⟨o, e, d⟩ := T.obj _ _ st5 b hb
      exact (I7.pin (b, o) (List.mem_append_right _ (List.mem_append_right _ (mem_pinsAt hb e)))).2.1
    cases f with
    | next => obtain ⟨σ7, H7, I7, n7⟩ := q7; exact again I7 n7
    | cont => obtain ⟨σ7, H7, I7, n7⟩ := q7; exact again I7 n7
    | brk => obtain ⟨σ7, H7, I7, q7⟩ := q7; exact ⟨σ7, H7, I7.unpinned, q7⟩
    | ret v => obtain ⟨x7, σ7, H7, I7, r7, q7⟩ := q7; exact ⟨x7, σ7, H7, I7.unpinned, r7, q7⟩
end
end L2
namespace L2
open PySem PySem.Spec PyProof.Rows
abbrev R2 := V → V → Hp → VK → Prop
def OpR (X : Cx) (f : Value → Value → Sem Value) (r : R2) : Prop :=
  ∀ (pins : List (Addr × Obj)) (s : Shared) (σ : St) (H : Hp) (x y : V) (v u : Value) (Q : VK), Inv X pins σ H s → RelV x v → RelV y u → r x y H Q →
    wpAny (model X.prog X.w) X.A (f v u) (EP X pins σ Q) X.xe s
def UnR (X : Cx) (f : Value → Sem Value) (r : V → Hp → VK → Prop) : Prop :=
  ∀ (pins : List (Addr × Obj)) (s : Shared) (σ : St) (H : Hp) (x : V) (v : Value) (Q : VK), Inv X pins σ H s → RelV x v → r x H Q →
    wpAny (model X.prog X.w) X.A (f v) (EP X pins σ Q) X.xe s
def CallR (X : Cx) (f : Value) (r : List V → Hp → VK → Prop) : Prop :=
  ∀ (pins : List (Addr × Obj)) (s : Shared) (σ : St) (H : Hp) (xs : List V) (us : List Value) (Q : VK), Inv X pins σ H s → Vals xs us → r xs H Q →
    wpAny (model X.prog X.w) X.A (call f us) (EP X pins σ Q) X.xe s
def tOp (r : R2) (ta tb : TE) : TE := fun σ H Q => ta σ H fun x H1 => tb σ H1 fun y H2 => r x y H2 Q
def tUn (r : V → Hp → VK → Prop) (ta : TE) : TE := fun σ H Q => ta σ H fun x H1 => r x H1 Q
def rI (C : Int → Int → Prop) (g : Int → Int → V) : R2 := fun x y H Q => ∃ i j, x = .int i ∧ y = .int j ∧ C i j ∧ Q (g i j) H
def rI0 (g : Int → Int → V) : R2 := fun x y H Q => ∃ i j, x = .int i ∧ y = .int j ∧ Q (g i j) H
def rU (g : Int → V) : V → Hp → VK → Prop := fun x H Q => ∃ i, x = .int i ∧ Q (g i) H
section
variable {X : Cx} {a b c : Expr} {ta tb tc : TE} {pos : Pos}
theorem binT (ha : PE X a ta) (hb : PE X b tb) {pins : List (Addr × Obj)} {s : Shared} {σ : St} {H : Hp} {R : V → V → Hp → Prop} (I : Inv X pins σ H s)
    (h : ta σ H fun x H1 => tb σ H1 fun y H2 => R x y H2) {Q : Value → Shared → Prop} {f : Value → Value → Sem Value}
    (hf : ∀ v u s2 x y H2, Inv X pins σ H2 s2 → RelV x v → RelV y u → R x y H2 → wpAny (model X.prog X.w) X.A (f v u) Q X.xe s2) :
    wpAny (model X.prog X.w) X.A (eval a X.env) (fun v s₁ => wpAny (model X.prog X.w) X.A (eval b X.env) (fun u s₂ => wpAny (model X.prog X.w) X.A (f v u) Q X.xe s₂) X.xe s₁) X.xe s := by
  refine thn (ha pins s σ H _ I h) fun v s1 ⟨x, H1, I1, r1, q1⟩ => ?_
  refine thn (hb pins s1 σ H1 _ I1 q1) fun u s2 ⟨y, H2, I2, r2, q2⟩ => ?_
  exact hf v u s2 x y H2 I2 r1 r2 q2
theorem pe_op {op : Operator} {r : R2} (ho : OpR X (binaryOp op) r) (ha : PE X a ta) (hb : PE X b tb) : PE X (.BinOp a op b pos) (tOp r ta tb) := by
  intro pins s σ H Q I h
  exact wpAny_BinOp (binT ha hb I h fun v u s2 x y H2 I2 rx ry q => ho pins s2 σ H2 x y v u Q I2 rx ry q)
theorem pe_un {op : UnaryOp} {r : V → Hp → VK → Prop} (ho : UnR X (unaryOp op) r) (ha : PE X a ta) : PE X (.UnaryOp op a pos) (tUn r ta) := by
  intro pins s σ H Q I h
  exact UnaryOp_ (thn (ha pins s σ H _ I h) fun v s1 ⟨x, H1, I1, r1, q1⟩ => ho pins s1 σ H1 x v Q I1 r1 q1)
theorem opI {f : Value → Value → Sem Value} {C : Int → Int → Prop} {g : Int → Int → Int}
    (rule : ∀ (i j : Int) (t u : Tok) (s : Shared) (Q : Value → Shared → Prop) (E : Value → Shared → Prop), C i j → Q (.int (g i j) s.toks) { s with toks := s.toks + 1 } → wpAny (model X.prog X.w) X.A (f (.int i t) (.int j u)) Q E s) :
    OpR X f (rI C fun i j => .int (g i j)) := by
  intro pins s σ H x y v u Q I rx ry h
  obtain ⟨i, j, rfl, rfl, hc, q⟩ := h
  obtain ⟨t, rfl⟩ := rx
  obtain ⟨t', rfl⟩ := ry
  exact rule i j t t' s _ _ hc ⟨.int (g i j), H, I.tok _, ⟨_, rfl⟩, q⟩
theorem opI0 {f : Value → Value → Sem Value} {g : Int → Int → Int}
    (rule : ∀ (i j : Int) (t u : Tok) (s : Shared) (Q : Value → Shared → Prop) (E : Value → Shared → Prop), Q (.int (g i j) s.toks) { s with toks := s.toks + 1 } → wpAny (model X.prog X.w) X.A (f (.int i t) (.int j u)) Q E s) :
    OpR X f (rI0 fun i j => .int (g i j)) := by
  intro pins s σ H x y v u Q I rx ry h
  obtain ⟨i, j, rfl, rfl, q⟩ := h
  obtain ⟨t, rfl⟩ := rx
  obtain ⟨t', rfl⟩ := ry
  exact rule i j t t' s _ _ ⟨.int (g i j), H, I.tok _, ⟨_, rfl⟩, q⟩
theorem opB0 {f : Value → Value → Sem Value} {g : Int → Int → Bool}
    (rule : ∀ (i j : Int) (t u : Tok) (s : Shared) (Q : Value → Shared → Prop) (E : Value → Shared → Prop), Q (.bool (g i j)) s → wpAny (model X.prog X.w) X.A (f (.int i t) (.int j u)) Q E s) :
    OpR X f (rI0 fun i j => .bl (g i j)) := by
  intro pins s σ H x y v u Q I rx ry h
  obtain ⟨i, j, rfl, rfl, q⟩ := h
  obtain ⟨t, rfl⟩ := rx
  obtain ⟨t', rfl⟩ := ry
  exact rule i j t t' s _ _ ⟨.bl (g i j), H, I, rfl, q⟩
def CDiv (i j : Int) : Prop := 0 < j ∧ j < 1073741824
def CPow (i j : Int) : Prop := 0 ≤ j ∧ j ≤ 1000000 ∧ i.natAbs < 2 ^ 64
def CMul (i j : Int) : Prop := (-(2 ^ 64) < i ∧ i < 2 ^ 64) ∨ (-(2 ^ 64) < j ∧ j < 2 ^ 64)
theorem CMul.ok {i j : Int} (h : CMul i j) : IntMulOk i j := by
  rcases h with ⟨h1, h2⟩ | ⟨h1, h2⟩
  · exact .of_left (intBits_le_64 h1 h2)
  · exact .of_right (intBits_le_64 h1 h2)
theorem two_pow_nn (k : Nat) : (0 : Int) ≤ 2 ^ k := by
  rw [two_pow_cast]
  exact Int.natCast_nonneg _
theorem op_add : OpR X (binaryOp .Add) (rI0 fun i j => .int (i + j)) := opI0 fun _ _ _ _ _ _ _ q => add_int q
theorem op_sub : OpR X (binaryOp .Sub) (rI0 fun i j => .int (i - j)) := opI0 fun _ _ _ _ _ _ _ q => sub_int q
theorem op_mul : OpR X (binaryOp .Mult) (rI CMul fun i j => .int (i * j)) := opI fun _ _ _ _ _ _ _ hc q => mul_int q hc.ok
theorem op_fdiv : OpR X (binaryOp .FloorDiv) (rI CDiv fun i j => .int (i / j)) := opI fun i j _ _ _ _ _ hc q => by
  have h1 : (0 : Int) < j := hc.1
  have h2 : j < 1073741824 := hc.2
  exact floordiv_int (by omega) (by rw [Int.fdiv_eq_ediv_of_nonneg i (by omega)]; exact q) (.inl (PyProof.noPylong_small (by omega)))
theorem op_mod : OpR X (binaryOp .Mod) (rI (fun _ j => 0 < j) fun i j => .int (i % j)) := opI fun i j _ _ _ _ _ hc q => by
  have h1 : (0 : Int) < j := hc
  exact mod_int' (by omega) (by rw [Int.fmod_eq_emod_of_nonneg i (by omega)]; exact q)
theorem op_shl : OpR X (binaryOp .LShift) (rI CPow fun i j => .int (i * 2 ^ j.toNat)) := opI fun _ _ _ _ _ _ _ hc q => lshift_int_small hc.1 hc.2.1 hc.2.2 q
theorem op_shr : OpR X (binaryOp .RShift) (rI (fun _ j => 0 ≤ j) fun i j => .int (i / 2 ^ j.toNat)) := opI fun i j _ _ _ _ _ hc q =>
  rshift_int hc (by rw [Int.fdiv_eq_ediv_of_nonneg i (two_pow_nn _)]; exact q)
theorem op_and : OpR X (binaryOp .BitAnd) (rI0 fun i j => .int (Builtin.bitAnd i j)) := opI0 fun _ _ _ _ _ _ _ q => and_int q
theorem op_or : OpR X (binaryOp .BitOr) (rI0 fun i j => .int (Builtin.bitOr i j)) := opI0 fun _ _ _ _ _ _ _ q => or_int q
theorem unI {f : Value → Sem Value} {g : Int → Int}
    (rule : ∀ (i : Int) (t : Tok) (s : Shared) (Q : Value → Shared → Prop) (E : Value → Shared → Prop), Q (.int (g i) s.toks) { s with toks := s.toks + 1 } → wpAny (model X.prog X.w) X.A (f (.int i t)) Q E s) :
    UnR X f (rU fun i => .int (g i)) := by
  intro pins s σ H x v Q I rx h
  obtain ⟨i, rfl, q⟩ := h
  obtain ⟨t, rfl⟩ := rx
  exact rule i t s _ _ ⟨.int (g i), H, I.tok _, ⟨_, rfl⟩, q⟩
theorem un_neg : UnR X (unaryOp .USub) (rU fun i => .int (-i)) := unI fun _ _ _ _ _ q => neg_int q
end
def scal : V → V → Bool
  | .non, .non => true | .non, .int _ => true | .int _, .non => true | .non, .bl _ => true | .bl _, .non => true | .non, .str _ => true | .str _, .non => true
  | .int _, .int _ => true | .bl _, .bl _ => true | .str _, .str _ => true | .byt _, .byt _ => true
  | .int _, .str _ => true | .str _, .int _ => true | .bl _, .str _ => true | .str _, .bl _ => true
  | _, _ => false
def rEq : R2 := fun x y H Q => scal x y = true ∧ Q (.bl (decide (x = y))) H
def rNe : R2 := fun x y H Q => scal x y = true ∧ Q (.bl (!decide (x = y))) H
theorem dec_int {i j : Int} : decide (V.int i = V.int j) = (i == j) := by
  rw [Bool.eq_iff_iff]
  simp
theorem dec_bl {i j : Bool} : decide (V.bl i = V.bl j) = (i == j) := by
  rw [Bool.eq_iff_iff]
  simp
theorem dec_str {i j : Str} : decide (V.str i = V.str j) = (i == j) := by
  rw [Bool.eq_iff_iff]
  simp
theorem dec_byt {i j : Array UInt8} : decide (V.byt i = V.byt j) = (i.toList == j.toList) := by
  rw [Bool.eq_iff_iff]
  cases i
  cases j
  simp
section
variable {X : Cx} {a b c : Expr} {ta tb tc : TE} {pos : Pos}
theorem fin_bl {pins : List (Addr × Obj)} {σ : St} {H : Hp} {s : Shared} {Q : VK} {k k' : Bool} (I : Inv X pins σ H s) (q : Q (.bl k) H) (e : k = k') : EP X pins σ Q (.bool k') s := by
  subst e
  exact ⟨.bl k, H, I, rfl, q⟩
theorem op_eq : OpR X (compareOp .Eq) rEq := by
  intro pins s σ H x y v u Q I rx ry h
  obtain ⟨hs, q⟩ := h
  cases x with
  | non =>
    cases rx
    cases y with
    | non => cases ry; exact PySem.EqNone.eq_none_none (fin_bl I q (by simp))
    | bl j => cases ry; exact PySem.EqNone.eq_none_bool (fin_bl I q (by simp))
    | int j => obtain ⟨t', rfl⟩ := ry; exact PySem.EqNone.eq_none_int (fin_bl I q (by simp))
    | str j => obtain ⟨t', rfl⟩ := ry; exact PySem.EqNone.eq_none_str (fin_bl I q (by simp))
    | _ => exact absurd (show false = true from hs) Bool.false_ne_true
  | bl i =>
    cases rx
    cases y with
    | non => cases ry; exact PySem.EqNone.eq_bool_none (fin_bl I q (by simp))
    | bl j => cases ry; exact eq_bool (fin_bl I q dec_bl)
    | str j => obtain ⟨t', rfl⟩ := ry; exact PySem.EqMixed.eq_bool_str (fin_bl I q (by simp))
    | _ => exact absurd (show false = true from hs) Bool.false_ne_true
  | int i =>
    obtain ⟨t, rfl⟩ := rx
    cases y with
    | non => cases ry; exact PySem.EqNone.eq_int_none (fin_bl I q (by simp))
    | int j => obtain ⟨t', rfl⟩ := ry; exact eq_int (fin_bl I q dec_int)
    | str j => obtain ⟨t', rfl⟩ := ry; exact PySem.EqMixed.eq_int_str (fin_bl I q (by simp))
    | _ => exact absurd (show false = true from hs) Bool.false_ne_true
  | str i =>
    obtain ⟨t, rfl⟩ := rx
    cases y with
    | non => cases ry; exact PySem.EqNone.eq_str_none (fin_bl I q (by simp))
    | bl j => cases ry; exact PySem.EqMixed.eq_str_bool (fin_bl I q (by simp))
    | int j => obtain ⟨t', rfl⟩ := ry; exact PySem.EqMixed.eq_str_int (fin_bl I q (by simp))
    | str j => obtain ⟨t', rfl⟩ := ry; exact eq_str (fin_bl I q dec_str)
    | _ => exact absurd (show false = true from hs) Bool.false_ne_true
  | byt i =>
    obtain ⟨t, rfl⟩ := rx
    cases y with
    | byt j => obtain ⟨t', rfl⟩ := ry; exact PySem.W.eq_bytes (fin_bl I q dec_byt)
    | _ => exact absurd (show false = true from hs) Bool.false_ne_true
  | _ => cases y <;> exact absurd (show false = true from hs) Bool.false_ne_true
theorem op_ne : OpR X (compareOp .NotEq) rNe := by
  intro pins s σ H x y v u Q I rx ry h
  obtain ⟨hs, q⟩ := h
  cases x with
  | non =>
    cases rx
    cases y with
    | non => cases ry; exact PySem.EqNone.ne_none_none (fin_bl I q (by simp))
    | bl j => cases ry; exact PySem.EqNone.ne_none_bool (fin_bl I q (by simp))
    | int j => obtain ⟨t', rfl⟩ := ry; exact PySem.EqNone.ne_none_int (fin_bl I q (by simp))
    | str j => obtain ⟨t', rfl⟩ := ry; exact PySem.EqNone.ne_none_str (fin_bl I q (by simp))
    | _ => exact absurd (show false = true from hs) Bool.false_ne_true
  | bl i =>
    cases rx
    cases y with
    | non => cases ry; exact PySem.EqNone.ne_bool_none (fin_bl I q (by simp))
    | bl j => cases ry; exact ne_bool (fin_bl I q (congrArg not dec_bl))
    | str j => obtain ⟨t', rfl⟩ := ry; exact PySem.EqMixed.ne_bool_str (fin_bl I q (by simp))
    | _ => exact absurd (show false = true from hs) Bool.false_ne_true
  | int i =>
    obtain ⟨t, rfl⟩ := rx
    cases y with
    | non => cases ry; exact PySem.EqNone.ne_int_none (fin_bl I q (by simp))
    | int j => obtain ⟨t', rfl⟩ := ry; exact ne_int (fin_bl I q (congrArg not dec_int))
    | str j => obtain ⟨t', rfl⟩ := ry; exact PySem.EqMixed.ne_int_str (fin_bl I q (by simp))
    | _ => exact absurd (show false = true from hs) Bool.false_ne_true
  | str i =>
    obtain ⟨t, rfl⟩ := rx
    cases y with
    | non => cases ry; exact PySem.EqNone.ne_str_none (fin_bl I q (by simp))
    | bl j => cases ry; exact PySem.EqMixed.ne_str_bool (fin_bl I q (by simp))
    | int j => obtain ⟨t', rfl⟩ := ry; exact PySem.EqMixed.ne_str_int (fin_bl I q (by simp))
    | str j => obtain ⟨t', rfl⟩ := ry; exact ne_str (fin_bl I q (congrArg not dec_str))
    | _ => exact absurd (show false = true from hs) Bool.false_ne_true
  | byt i =>
    obtain ⟨t, rfl⟩ := rx
    cases y with
    | byt j => obtain ⟨t', rfl⟩ := ry; exact PySem.W.ne_bytes (fin_bl I q (congrArg not dec_byt))
    | _ => exact absurd (show false = true from hs) Bool.false_ne_true
  | _ => cases y <;> exact absurd (show false = true from hs) Bool.false_ne_true
theorem op_lt : OpR X (compareOp .Lt) (rI0 fun i j => .bl (decide (i < j))) := opB0 fun _ _ _ _ _ _ _ q => lt_int q
theorem op_gt : OpR X (compareOp .Gt) (rI0 fun i j => .bl (decide (j < i))) := opB0 fun _ _ _ _ _ _ _ q => gt_int q
theorem op_ge : OpR X (compareOp .GtE) (rI0 fun i j => .bl (decide (j ≤ i))) := opB0 fun _ _ _ _ _ _ _ q => ge_int q
theorem OpR.or {f : Value → Value → Sem Value} {r r' : R2} (h : OpR X f r) (h' : OpR X f r') : OpR X f (fun x y H Q => r x y H Q ∨ r' x y H Q) := by
  intro pins s σ H x y v u Q I rx ry q
  rcases q with q | q
  · exact h pins s σ H x y v u Q I rx ry q
  · exact h' pins s σ H x y v u Q I rx ry q
theorem nomark (b : Expr) {op : CmpOp} (h : op ≠ .In := by decide) (h2 : op ≠ .NotIn := by decide) : behindInMarks op b = false := by
  have e1 : (op == CmpOp.In) = false := by cases op <;> first | rfl | exact absurd rfl h
  have e2 : (op == CmpOp.NotIn) = false := by cases op <;> first | rfl | exact absurd rfl h2
  cases b <;> simp [behindInMarks, e1, e2]
theorem pe_cmpR {op : CmpOp} {r : R2} (ho : OpR X (compareOp op) r) (ha : PE X a ta) (hb : PE X b tb) (hm : behindInMarks op b = false) : PE X (.Compare a [op] [b] pos) (tOp r ta tb) := by
  intro pins s σ H Q I h
  exact wpAny_Compare1 (binT ha hb I h fun v u s2 x y H2 I2 rx ry q => ho pins s2 σ H2 x y v u Q I2 rx ry q) hm
def tTest (t : TE) : TT := fun σ H Q => t σ H fun x H' => ∃ k, x = .bl k ∧ Q k H'
theorem pt_cmpR {op : CmpOp} {r : R2} (ho : OpR X (compareOp op) r) (ha : PE X a ta) (hb : PE X b tb) (hm : behindInMarks op b = false) : PT X (.Compare a [op] [b] pos) (tTest (tOp r ta tb)) := by
  intro pins s σ H Q I h
  refine wpAny_isTrue_Compare1 (thn (ha pins s σ H _ I h) fun v s1 ⟨x, H1, I1, r1, q1⟩ => thn (hb pins s1 σ H1 _ I1 q1) fun u s2 ⟨y, H2, I2, r2, q2⟩ =>
    thn (ho pins s2 σ H2 x y v u _ I2 r1 r2 q2) fun c s3 ⟨z, H3, I3, r3, k, e, q3⟩ => ?_) hm
  subst e
  cases r3
  exact wpAny_truthy_bool ⟨H3, I3, q3⟩
theorem line63 : (sizeLine : Nat) < 2 ^ 63 := by rw [sizeLine_eq]; decide
theorem op_add_str : OpR X (binaryOp .Add) (fun x y H Q => ∃ i j, x = .str i ∧ y = .str j ∧ i.length + j.length ≤ sizeLine ∧ Q (.str (i ++ j)) H) := by
  intro pins s σ H x y v u Q I rx ry h
  obtain ⟨i, j, rfl, rfl, hz, q⟩ := h
  obtain ⟨t, rfl⟩ := rx
  obtain ⟨t', rfl⟩ := ry
  exact add_str (fun t' tk => ⟨.str (i ++ j), H, I.tok _, ⟨_, rfl⟩, q⟩) hz
theorem vals1 {x : V} {us : List Value} (r : Vals [x] us) : ∃ u, us = [u] ∧ RelV x u := by
  cases r with
  | cons r1 r2 => cases r2; exact ⟨_, rfl, r1⟩
theorem vals2 {x y : V} {us : List Value} (r : Vals [x, y] us) : ∃ u w', us = [u, w'] ∧ RelV x u ∧ RelV y w' := by
  cases r with
  | cons r1 r2 =>
    cases r2 with
    | cons r3 r4 => cases r4; exact ⟨_, _, rfl, r1, r3⟩
theorem call_str_int : CallR X (.type "str") (fun xs H Q => ∃ i, xs = [.int i] ∧ i.natAbs.log2 < 1920 ∧ Q (.str (toString i)) H) := by
  intro pins s σ H xs us Q I r h
  obtain ⟨i, rfl, hz, q⟩ := h
  obtain ⟨u, rfl, t, rfl⟩ := vals1 r
  exact PySem.P.str_of_int hz ⟨.str _, H, I.tok _, ⟨_, rfl⟩, q⟩
end
end L2
namespace L2
open PySem PySem.Spec PyProof.Rows
structure ObjM (h : Heap) (x dx C : Addr) (mA : Str → Option Value) : Prop where
  obj : h.get? x = some (PySem.W.instObj C dx)
  ns : h.Ns1 dx mA
  ne : dx ≠ x
theorem lookIn_ns {h : Heap} {dx : Addr} {mA : Str → Option Value} (n : h.Ns1 dx mA) : ∃ od, h.get? dx = some od ∧ ∀ name, PySem.W.lookIn name od = some (mA name) := by
  obtain ⟨o, es, ep, ho, hd, hk, _, hm⟩ := n
  refine ⟨o, ho, fun name => ?_⟩
  have e := hm name
  unfold nsFind findBy at e
  rw [← Array.find?_toList] at e
  unfold PySem.W.lookIn
  rw [hd]
  dsimp only
  split
  · rename_i y q
    rw [q] at e
    exact congrArg some e
  · rename_i q
    rw [q] at e
    have a : es.toList.any (·.refKey) = false := by
      rw [List.any_eq_false]
      intro y hy
      obtain ⟨z, t, hkey⟩ := hk y (Array.mem_toList_iff.mp hy)
      simp [DictEntry.refKey, hkey]
    have a' : ¬ es.toList.any (·.refKey) = true := by rw [a]; exact Bool.false_ne_true
    rw [if_neg a']
    exact congrArg some e
theorem ObjM.look {h : Heap} {x dx C : Addr} {mA : Str → Option Value} (I : ObjM h x dx C mA) : ∃ od, PySem.W.InstAt h x (PySem.W.instObj C dx) C (some od) ∧ ∀ name, PySem.W.lookIn name od = some (mA name) :=
  let ⟨od, ho, hl⟩ := lookIn_ns I.ns
  ⟨od, ⟨I.obj, rfl, rfl, ho⟩, hl⟩
section
variable {prog : Program} {w : World} {A : Around} {E : Value → Shared → Prop} {s : Shared} {K : PySem.W.Frag} {x dx C f : Addr} {mA : Str → Option Value} {name : Str} {v : Value}
theorem get_map {expr : Bool} {Q : Value → Shared → Prop} (X : K.In s.heap) (I : ObjM s.heap x dx C mA) (hg : PySem.W.plainGet K C name = true) (hh : PySem.W.hasDictIn K C = true)
    (ha : PySem.W.findIn K (.ref C) name = some none) (hv : mA name = some v) (hv' : PySem.W.handedIn v = true) (h : Q v { s with toks := s.toks + 1 }) :
    wpAny (model prog w) A (getAttr (.ref x) name expr) Q E s := by
  obtain ⟨od, J, hl⟩ := I.look
  exact PySem.W.get_value X J (PySem.W.plainGet_of hg).1 (PySem.W.findObj_own hh ha rfl (by rw [hl, hv])) hv' h
theorem get_meth {pl : Sem Bool} {Q : Value × List Value → Shared → Prop} (X : K.In s.heap) (I : ObjM s.heap x dx C mA) (hg : PySem.W.plainGet K C name = true)
    (hf : PySem.W.findIn K (.ref C) name = some (some (.ref f))) (ht : PySem.W.isFn K (.ref f) = true) (hv : mA name = none) (h : Q (.ref f, [.ref x]) s) :
    wpAny (model prog w) A (getMethod (.ref x) name pl) Q E s := by
  obtain ⟨od, J, hl⟩ := I.look
  exact PySem.W.method_fn X J (PySem.W.plainGet_of hg).1 (PySem.W.plainGet_of hg).2 hf (beq_iff_eq.mp ht) (by show (PySem.W.lookIn name od).map (·.isSome) = some false; rw [hl, hv]; rfl) h
theorem set_map {ns : List Str} {Q : Unit → Shared → Prop} (X : K.In s.heap) (I : ObjM s.heap x dx C mA)
    (hs : PySem.W.findIn K (.ref C) "__setattr__" = some (some (.builtin "object.__setattr__"))) (hp : PySem.W.plainOver K C = true) (ht : PySem.W.takerIn K C name = some none) (hh : PySem.W.hasDictIn K C = true)
    (hw : PySem.Within mA ns) (hsz : ns.length ≤ sizeLine)
    (h : ∀ h', ObjM h' x dx C (fun y => if y = name then some v else mA y) → Heap.SameBut dx s.heap h' → Q () { s with heap := h', toks := s.toks + 2 }) :
    wpAny (model prog w) A (setAttr (.ref x) name v) Q E s := by
  obtain ⟨od, J, hl⟩ := I.look
  refine PySem.W.set_plain X J hs (PySem.W.osa_open (s := { s with toks := s.toks + 1 }) (r := none) X J hp ht fun b => ?_)
  obtain ⟨cd, hc, hd'⟩ := PySem.W.any_some hh
  have hx : s.heap.get? x = some ⟨.ref C, some dx, .plain, #[]⟩ := I.obj
  refine wpAny_bind (wpAny_pure (wpAny_bind (wpAny_bind (wpAny_loadPart hx (wpAny_bind (PySem.W.Looks.here (s := { s with toks := s.toks + 1 }) (PySem.W.looks_clsIn X hc) ?_))))))
  rw [hd']
  refine wpAny_pure (a := some dx) (wpAny_bind (wpAny_pure (wpAny_bind ?_)))
  refine wpAny_nsSet1 (s := { s with toks := s.toks + 1 }) I.ns fun h' hn2 hs2 => ?_
  obtain ⟨oD, esD, epD, hoD, hdD, hcD⟩ := hn2.count (PySem.Within.cons name v hw)
  refine wpAny_bind (wpAny_lookBehind hoD (by rw [hdD]; exact pastItsLine_dict (Nat.le_trans hcD (by rw [List.length_cons]; omega))) ?_)
  exact wpAny_pure (h _ ⟨(hs2.2 _ (Ne.symm I.ne)).trans I.obj, hn2, I.ne⟩ hs2)
theorem make_map {R : Result → Shared → Prop} {vs : List Value} {kw : List (Str × Value)} (X : K.In s.heap) (hm : PySem.W.makesIn K C = true)
    (hi : PySem.W.findIn K (.ref C) "__init__" = some (some (.ref f))) (hf : PySem.W.typeIn K (.ref f) = some (.type "function"))
    (h : codeAny (model prog w) (A.under (.builtin "type.__call__" ⟨.ref C :: vs, kw⟩)) (.call (.ref f) ⟨.ref (s.heap.objs.size + 1) :: vs, kw⟩) (PySem.W.InitBack (s.heap.objs.size + 1) R)
      { s with heap := (s.heap.push PySem.W.emptyDict).push (PySem.W.instObj C s.heap.objs.size) }) :
    codeAny (model prog w) A (.call (.ref C) ⟨vs, kw⟩) R s := by
  obtain ⟨hh, g, d, t, os⟩ := s
  exact PySem.W.make_core (PySem.W.makes_of X hm) (PySem.W.looks_findIn X hi) (fun self => PySem.W.bind_fn X self hf) (.inl rfl) h
end
def putF (f : Str) (v : V) : List (Str × V) → List (Str × V)
  | [] => [(f, v)]
  | (g, x) :: r => if g = f then (g, v) :: r else (g, x) :: putF f v r
theorem lookup_putF (f g : Str) (v : V) : ∀ fs : List (Str × V), (putF f v fs).lookup g = if g = f then some v else fs.lookup g
  | [] => by
    show List.lookup g [(f, v)] = _
    by_cases h : g = f
    · have hb : (g == f) = true := beq_iff_eq.mpr h
      simp only [List.lookup, hb, if_pos h]
    · have hb : (g == f) = false := beq_eq_false_iff_ne.mpr h
      simp only [List.lookup, hb, if_neg h]
  | (k, x) :: r => by
    have ih := lookup_putF f g v r
    rw [show putF f v ((k, x) :: r) = (if k = f then (k, v) :: r else (k, x) :: putF f v r) from rfl]
    by_cases hk : k = f
    · rw [if_pos hk]
      by_cases h : g = k
      · have hb : (g == k) = true := beq_iff_eq.mpr h
        simp only [List.lookup, hb, if_pos (h.trans hk)]
      · have hb : (g == k) = false := beq_eq_false_iff_ne.mpr h
        simp only [List.lookup, hb, if_neg (fun e : g = f => h (e.trans hk.symm))]
    · rw [if_neg hk]
      by_cases h : g = k
      · have hb : (g == k) = true := beq_iff_eq.mpr h
        simp only [List.lookup, hb, if_neg (fun e : g = f => hk (h.symm.trans e))]
      · have hb : (g == k) = false := beq_eq_false_iff_ne.mpr h
        simp only [List.lookup, hb]
        exact ih
theorem keys_putF (f : Str) (v : V) : ∀ fs : List (Str × V), f ∈ (putF f v fs).map (·.1) ∧ ∀ g, g ∈ fs.map (·.1) → g ∈ (putF f v fs).map (·.1)
  | [] => ⟨by simp [putF], fun g h => by simp at h⟩
  | (k, x) :: r => by
    obtain ⟨i1, i2⟩ := keys_putF f v r
    rw [show putF f v ((k, x) :: r) = (if k = f then (k, v) :: r else (k, x) :: putF f v r) from rfl]
    by_cases hk : k = f
    · rw [if_pos hk]
      subst hk
      exact ⟨by simp, fun g h => by simpa using h⟩
    · rw [if_neg hk]
      refine ⟨?_, fun g h => ?_⟩
      · rw [List.map_cons]
        exact List.mem_cons_of_mem _ i1
      · rw [List.map_cons] at h ⊢
        rcases List.mem_cons.mp h with e | e
        · exact List.mem_cons.mpr (.inl e)
        · exact List.mem_cons_of_mem _ (i2 g e)
theorem length_putF (f : Str) (v : V) : ∀ fs : List (Str × V), (putF f v fs).length ≤ fs.length + 1
  | [] => by simp [putF]
  | (k, x) :: r => by
    have ih := length_putF f v r
    rw [show putF f v ((k, x) :: r) = (if k = f then (k, v) :: r else (k, x) :: putF f v r) from rfl]
    by_cases hk : k = f
    · rw [if_pos hk, List.length_cons, List.length_cons]; omega
    · rw [if_neg hk, List.length_cons, List.length_cons]; omega
theorem RelO.some_of {v : V} {o : Option Value} (r : RelO (some v) o) : ∃ u, o = some u ∧ RelV v u := by
  cases o with
  | none => exact (show False from r).elim
  | some u => exact ⟨u, rfl, r⟩
theorem RelO.none_of {o : Option Value} (r : RelO none o) : o = none := by
  cases o with
  | none => rfl
  | some u => exact (show False from r).elim
theorem handed_of {v : V} {u : Value} (r : RelV v u) : PySem.W.handedIn u = true := by
  cases v with
  | non => cases (show u = Value.none from r); rfl
  | bl b => cases (show u = Value.bool b from r); rfl
  | int i => obtain ⟨t, e⟩ := (show ∃ t, u = Value.int i t from r); cases e; rfl
  | str x => obtain ⟨t, e⟩ := (show ∃ t, u = Value.str x t from r); cases e; rfl
  | byt b => obtain ⟨t, e⟩ := (show ∃ t, u = Value.bytes b t from r); cases e; rfl
  | flt b => obtain ⟨t, e⟩ := (show ∃ t, u = Value.float b t from r); cases e; rfl
  | ref a => cases (show u = Value.ref a from r); rfl
  | ty n => cases (show u = Value.type n from r); rfl
section
variable {P : Program} {w : World} {H H' : Hp} {h h' : Heap} {a C dx : Addr} {fs fs' : List (Str × V)}
theorem ins_get (hok : HOk P w H h) (e : H a = some (.ins C dx fs)) : ∃ mA, ObjM h a dx C mA ∧ (∀ f, RelO (fs.lookup f) (mA f)) ∧ PySem.Within mA (fs.map (·.1)) ∧ fs.length ≤ 1000 ∧ H dx = some (.own a) := by
  obtain ⟨d, z, ne, ob, mA, n, r, q⟩ := (show ObjOk P w H h a (.ins C dx fs) from hok a _ e)
  exact ⟨mA, ⟨ob, n, ne⟩, r, q, z, d⟩
end
structure Cls (K : PySem.W.Frag) (C : Addr) : Prop where
  pg : PySem.W.plainGet K C Str.empty = true
  hd : PySem.W.hasDictIn K C = true
  po : PySem.W.plainOver K C = true
  sa : PySem.W.findIn K (.ref C) "__setattr__" = some (some (.builtin "object.__setattr__"))
theorem Cls.get {K : PySem.W.Frag} {C : Addr} (c : Cls K C) (f : Str) : PySem.W.plainGet K C f = true := c.pg
def NoAttr (K : PySem.W.Frag) (C : Addr) (f : Str) : Prop := PySem.W.findIn K (.ref C) f = some none
theorem NoAttr.taker {K : PySem.W.Frag} {C : Addr} {f : Str} (n : NoAttr K C f) : PySem.W.takerIn K C f = some none := by
  unfold PySem.W.takerIn
  rw [show PySem.W.findIn K (.ref C) f = some none from n]
  rfl
structure Meth (K : PySem.W.Frag) (C : Addr) (m : Str) (f : Addr) : Prop where
  at_ : PySem.W.findIn K (.ref C) m = some (some (.ref f))
  fn : PySem.W.isFn K (.ref f) = true
  kp : PySem.W.keepIn K (.ref f) = true
section
variable {X : Cx} {pins : List (Addr × Obj)} {σ : St} {H : Hp} {s : Shared} {a C dx : Addr} {fs : List (Str × V)} {f : Str} {v : V} {A : Around} {E : Value → Shared → Prop}
theorem getattr_ok {b : Bool} {Q : Value → Shared → Prop} (I : Inv X pins σ H s) (e : H a = some (.ins C dx fs)) (c : Cls X.K C) (n : NoAttr X.K C f) (l : fs.lookup f = some v)
    (h : ∀ u s', Inv X pins σ H s' → RelV v u → Q u s') : wpAny (model X.prog X.w) A (getAttr (.ref a) f b) Q E s := by
  obtain ⟨mA, O, r, _, _, _⟩ := ins_get I.hok e
  obtain ⟨u, hu, ru⟩ := RelO.some_of (v := v) (o := mA f) (by rw [← l]; exact r f)
  exact get_map I.kIn O (c.get f) c.hd n hu (handed_of ru) (h u _ (I.tok _) ru)
theorem getmeth_ok {m : Str} {g : Addr} {pl : Sem Bool} {Q : Value × List Value → Shared → Prop} (I : Inv X pins σ H s) (e : H a = some (.ins C dx fs)) (c : Cls X.K C) (k : Meth X.K C m g) (l : fs.lookup m = none)
    (h : Q (.ref g, [.ref a]) s) : wpAny (model X.prog X.w) A (getMethod (.ref a) m pl) Q E s := by
  obtain ⟨mA, O, r, _, _, _⟩ := ins_get I.hok e
  have hn : mA m = none := RelO.none_of (by rw [← l]; exact r m)
  exact get_meth I.kIn O (c.get m) k.at_ k.fn hn h
theorem setattr_ok {y : V} {u : Value} {Q : Unit → Shared → Prop} (I : Inv X pins σ H s) (e : H a = some (.ins C dx fs)) (c : Cls X.K C) (n : NoAttr X.K C f) (hl : fs.length < 1000) (ry : RelV y u)
    (h : ∀ s', Inv X pins σ (upd H a (.ins C dx (putF f y fs))) s' → Q () s') : wpAny (model X.prog X.w) A (setAttr (.ref a) f u) Q E s := by
  obtain ⟨mA, O, r, wi, _, ho⟩ := ins_get I.hok e
  have hz : (fs.map (·.1)).length ≤ sizeLine := by rw [List.length_map, sizeLine_eq]; omega
  refine set_map I.kIn O c.sa c.po n.taker c.hd wi hz fun h' O' sb => h _ ?_
  have hd : ∃ o, h'.get? dx = some o := let ⟨o, _, _, e', _⟩ := O'.ns; ⟨o, e'⟩
  refine I.write (x := a) (e := dx) (by rw [e]; exact True.intro) (.inr ho) (fun b q hb z => (sb.2 b hb).trans z) hd ?_
  refine ⟨by rw [upd_ne O.ne]; exact ho, ?_, O.ne, O'.obj, _, O'.ns, fun g => ?_, fun g hg => ?_⟩
  · have := length_putF f y fs; omega
  · show RelO ((putF f y fs).lookup g) (if g = f then some u else mA g)
    rw [lookup_putF]
    by_cases q : g = f
    · rw [if_pos q, if_pos q]; exact ry
    · rw [if_neg q, if_neg q]; exact r g
  · by_cases q : g = f
    · rw [q]; exact (keys_putF f y fs).1
    · refine (keys_putF f y fs).2 g (wi g fun z => hg ?_)
      show (if g = f then some u else mA g) = none
      rw [if_neg q]; exact z
theorem Inv.made (I : Inv X pins σ H s) : Inv X pins σ (upd (upd H s.heap.objs.size (.own (s.heap.objs.size + 1))) (s.heap.objs.size + 1) (.ins C s.heap.objs.size []))
    { s with heap := (s.heap.push PySem.W.emptyDict).push (PySem.W.instObj C s.heap.objs.size) } := by
  have e1 : (s.heap.push PySem.W.emptyDict).get? s.heap.objs.size = some PySem.W.emptyDict := Heap.get?_push_size s.heap rfl
  have e2 : ((s.heap.push PySem.W.emptyDict).push (PySem.W.instObj C s.heap.objs.size)).get? (s.heap.objs.size + 1) = some (PySem.W.instObj C s.heap.objs.size) := by
    have := Heap.get?_push_size (s.heap.push PySem.W.emptyDict) (o := PySem.W.instObj C s.heap.objs.size) rfl
    rwa [Heap.size_push] at this
  have e3 : (s.heap.push PySem.W.emptyDict).Ns s.heap.objs.size (fun _ => none) := ⟨PySem.W.emptyDict, #[], _, e1, rfl, (fun e he => absurd he (by simp)), fun _ => rfl⟩
  have I1 := I.laid (a := s.heap.objs.size) (o := .own (s.heap.objs.size + 1)) (h' := s.heap.push PySem.W.emptyDict) (t' := s.toks) (fun b u q => Heap.get?_push_of_some _ q) (Nat.le_refl _) ⟨_, e1⟩
  refine I1.laid (a := s.heap.objs.size + 1) (o := .ins C s.heap.objs.size []) (t' := s.toks) (fun b u q => Heap.get?_push_of_some _ q) (Nat.le_of_eq (Heap.size_push _ _)) ?_
  have ne : s.heap.objs.size ≠ s.heap.objs.size + 1 := Nat.ne_of_lt (Nat.lt_succ_self _)
  refine ⟨by rw [upd_ne ne, upd_same], Nat.zero_le _, ne, e2, fun _ => none, (Heap.Ns1.of_empty e3).at fun o q => Heap.get?_push_of_some _ q, fun _ => True.intro, fun y hy => absurd rfl hy⟩
theorem attr_of {prog : Program} {w : World} {env : Env} {e : Expr} {f : Str} {pos : Pos} {s : Shared} {Q : Value → Shared → Prop} (hb : attributeBase e f env (eval e env) = eval e env)
    (h : wpAny (model prog w) A (eval e env) (fun o s₁ => wpAny (model prog w) A (getAttr o f true) Q E s₁) E s) : wpAny (model prog w) A (eval (.Attribute e f pos) env) Q E s :=
  Attribute_any_ h (by rw [arm_eval_Attribute, hb])
end
def tFld (K : PySem.W.Frag) (ta : TE) (f : Str) : TE := fun σ H Q => ta σ H fun x H1 => ∃ a C dx fs v, x = .ref a ∧ H1 a = some (.ins C dx fs) ∧ Cls K C ∧ NoAttr K C f ∧ fs.lookup f = some v ∧ Q v H1
def sFld (K : PySem.W.Frag) (ta tv : TE) (f : Str) : TS := fun D σ H => tv σ H fun y H1 => ta σ H1 fun x H2 => ∃ a C dx fs, x = .ref a ∧ H2 a = some (.ins C dx fs) ∧ Cls K C ∧ NoAttr K C f ∧ fs.length < 1000 ∧
  D.nx σ (upd H2 a (.ins C dx (putF f y fs)))
section
variable {X : Cx} {o e value : Expr} {f : Str} {pos pos' tpos : Pos} {ta tv : TE}
theorem pe_fld (he : PE X e ta) (hb : attributeBase e f X.env (eval e X.env) = eval e X.env) : PE X (.Attribute e f pos) (tFld X.K ta f) := by
  intro pins s σ H Q I h
  refine attr_of hb (thn (he pins s σ H _ I h) fun u s1 ⟨x, H1, I1, rx, a, C, dx, fs, v, ex, ea, c, n, l, q⟩ => ?_)
  subst ex
  obtain rfl : u = Value.ref a := rx
  exact getattr_ok I1 ea c n l fun u' s2 I2 ru => ⟨v, H1, I2, ru, q⟩
theorem ps_fld (ha : PE X o ta) (hv : PE X value tv) (hs : swapsWith value (some (.Attribute o f pos')) pos.line X.env = pure false) : PS X (.Assign [.Attribute o f pos'] value pos) (sFld X.K ta tv f) := by
  intro pins s σ H D I h
  refine plainObj_wpAny_Assign_Attribute (thn (hv pins s σ H _ I h) fun u s1 ⟨y, H1, I1, ry, q⟩ => thn (ha pins s1 σ H1 _ I1 q) fun ov s2 ⟨x, H2, I2, rx, a, C, dx, fs, ex, ea, c, n, l, q2⟩ => ?_) hs
  subst ex
  obtain rfl : ov = Value.ref a := rx
  exact setattr_ok I2 ea c n l ry fun s3 I3 => ⟨σ, _, I3, q2⟩
end
section
variable {X : Cx} {pins : List (Addr × Obj)} {σ : St} {H : Hp} {s : Shared} {A : Around} {E : Value → Shared → Prop} {Q : Value → Shared → Prop} {c : Value} {b : Bool}
inductive TyOf (K : PySem.W.Frag) (H : Hp) : V → Value → Prop where
  | non : TyOf K H .non (.type "NoneType")
  | bl (x : Bool) : TyOf K H (.bl x) (.type "bool")
  | int (i : Int) : TyOf K H (.int i) (.type "int")
  | str (x : Str) : TyOf K H (.str x) (.type "str")
  | flt (x : UInt64) : TyOf K H (.flt x) (.type "float")
  | lst {a : Addr} {xs : List V} (e : H a = some (.lst xs)) : TyOf K H (.ref a) (.type "list")
  | frz {a : Addr} {o : Obj} {xs : List V} (e : H a = some (.frz o (.lst xs))) : TyOf K H (.ref a) (.type "list")
  | tup {a : Addr} {xs : List V} (e : H a = some (.tup xs)) : TyOf K H (.ref a) (.type "tuple")
  | dK {a : Addr} {kvs : List (Key × V)} (e : H a = some (.dK kvs)) : TyOf K H (.ref a) (.type "dict")
  | dT {a : Addr} {kvs : List (List Key × V)} (e : H a = some (.dT kvs)) : TyOf K H (.ref a) (.type "dict")
  | ins {a C dx : Addr} {fs : List (Str × V)} (e : H a = some (.ins C dx fs)) (cl : Cls K C) (ha : PySem.W.findIn K (.ref C) "__class__" = some (some (.builtin "object.__class__")))
      (hn : PySem.W.specialIn K (.builtin "object.__class__") "__get__" = some (some (.builtin "getset_descriptor.__get__"))) (htk : PySem.W.takesIn K (.builtin "object.__class__") = some true)
      (hm : PySem.W.mroIn K C (.type "object") = some true) : TyOf K H (.ref a) (.ref C)
theorem isinst_ok {x : V} {u t : Value} (I : Inv X pins σ H s) (rx : RelV x u) (ty : TyOf X.K H x t) (e : PySem.W.kitOne X.K t c = some b) (h : ∀ tk, Q (.bool b) { s with toks := tk }) :
    wpAny (model X.prog X.w) A (call (.builtin "isinstance") [u, c]) Q E s := by
  cases ty with
  | non => cases (show u = Value.none from rx); exact PySem.W.kia_one PySem.W.kitx_none I.kIn True.intro e (fun z => nomatch z) h
  | bl y => cases (show u = Value.bool y from rx); exact PySem.W.kia_one PySem.W.kitx_bool I.kIn True.intro e (fun z => nomatch z) h
  | int i => obtain ⟨t, q⟩ := (show ∃ t, u = Value.int i t from rx); cases q; exact PySem.W.kia_one PySem.W.kitx_int I.kIn True.intro e (fun z => nomatch z) h
  | str y => obtain ⟨t, q⟩ := (show ∃ t, u = Value.str y t from rx); cases q; exact PySem.W.kia_one PySem.W.kitx_str I.kIn True.intro e (fun z => nomatch z) h
  | flt y => obtain ⟨t, q⟩ := (show ∃ t, u = Value.float y t from rx); cases q; exact PySem.W.kia_one PySem.W.kitx_float I.kIn True.intro e (fun z => nomatch z) h
  | @lst a xs ea =>
    cases (show u = Value.ref a from rx)
    obtain ⟨_, _, n, _, h1⟩ := (show ObjOk X.prog X.w H s.heap a (.lst xs) from I.hok a _ ea)
    exact PySem.W.kia_one PySem.W.kitx_list I.kIn ⟨_, h1, rfl⟩ e (fun z => nomatch z) h
  | @frz a ob xs ea =>
    cases (show u = Value.ref a from rx)
    obtain ⟨_, _, _, n, _, h1⟩ := (show ObjOk X.prog X.w H s.heap a (.frz ob (.lst xs)) from I.hok a _ ea)
    exact PySem.W.kia_one PySem.W.kitx_list I.kIn ⟨_, h1, rfl⟩ e (fun z => nomatch z) h
  | @tup a xs ea =>
    cases (show u = Value.ref a from rx)
    obtain ⟨_, _, _, p⟩ := (show ObjOk X.prog X.w H s.heap a (.tup xs) from I.hok a _ ea)
    obtain ⟨o, h1, h2, _⟩ := p
    exact PySem.W.kia_one PySem.W.kitx_tuple I.kIn ⟨o, h1, h2⟩ e (fun z => nomatch z) h
  | @dK a kvs ea =>
    cases (show u = Value.ref a from rx)
    obtain ⟨_, _, vs, _, p⟩ := (show ObjOk X.prog X.w H s.heap a (.dK kvs) from I.hok a _ ea)
    obtain ⟨o, es, ep, h1, h2, _⟩ := p
    exact PySem.W.kia_one PySem.W.kitx_dict I.kIn ⟨o, h1, h2.1⟩ e (fun z => nomatch z) h
  | @dT a kvs ea =>
    cases (show u = Value.ref a from rx)
    obtain ⟨_, _, xs, _, o, es, ep, h1, h2, _⟩ := (show ObjOk X.prog X.w H s.heap a (.dT kvs) from I.hok a _ ea)
    exact PySem.W.kia_one PySem.W.kitx_dict I.kIn ⟨o, h1, h2.1⟩ e (fun z => nomatch z) h
  | @ins a C dx fs ea cl ha hn htk hm =>
    cases (show u = Value.ref a from rx)
    obtain ⟨mA, O, _⟩ := ins_get I.hok ea
    obtain ⟨od, J, _⟩ := O.look
    exact PySem.W.kia_one (PySem.W.kitx_own (cl.get _) cl.hd ha hn htk hm) I.kIn J e (fun z => nomatch z) h
end
end L2
namespace L2
open PySem PySem.Spec PyProof.Rows
structure Room (k : Nat) (A : Around) : Prop where
  hd : A.handled = none
  dp : A.depth + 3 * k + 5 < recursionLimit
  un : A.units + 16 * k + 200 < cLine
theorem Room.mono {j k : Nat} {A : Around} (r : Room k A) (h : j ≤ k) : Room j A := ⟨r.hd, by have := r.dp; omega, by have := r.un; omega⟩
theorem Room.deeper {k : Nat} {A : Around} (r : Room (k + 1) A) (env : Env) : Room k (A.deeper env) :=
  ⟨r.hd, by have := r.dp; show A.depth + 1 + 3 * k + 5 < _; omega, by have := r.un; show A.units + 3 + 16 * k + 200 < _; omega⟩
theorem make_depth {A : Around} {C : Addr} {us : List Value} {kw : List (Str × Value)} : (A.under (.builtin "type.__call__" ⟨.ref C :: us, kw⟩)).depth = A.depth + 1 := by
  first | rfl | simp [Around.under, Code.weight, Code.isCreation, Code.isGuard, Code.isCaller, Code.frames, Code.isFrame, guardIds]
theorem make_units {A : Around} {C : Addr} {us : List Value} {kw : List (Str × Value)} : (A.under (.builtin "type.__call__" ⟨.ref C :: us, kw⟩)).units = A.units + 1 := by
  first | rfl | simp [Around.under, Code.cUnits, Code.frames, Code.isFrame]
theorem Room.make {k : Nat} {A : Around} (r : Room (k + 1) A) (C : Addr) (us : List Value) (kw : List (Str × Value)) : Room k (A.under (.builtin "type.__call__" ⟨.ref C :: us, kw⟩)) :=
  ⟨r.hd, by have := r.dp; rw [make_depth]; omega, by have := r.un; rw [make_units]; omega⟩
theorem Room.depth {k : Nat} {A : Around} (r : Room k A) : A.depth < recursionLimit := by have := r.dp; omega
def tNil : TA := fun _ H Q => Q [] H
def tCons (ta : TE) (tr : TA) : TA := fun σ H Q => ta σ H fun x H1 => tr σ H1 fun xs H2 => Q (x :: xs) H2
section
variable {X : Cx} {e : Expr} {es : List Expr} {te : TE} {t : TA} {pos : Pos}
theorem pa_nil : PA X [] tNil := fun _ _ _ _ H Q I h => Calls.spliced_nil ⟨[], H, I, .nil, h⟩
theorem pa_cons (ha : PE X e te) (hr : PA X es t) (hs : starEach (e :: es) X.env = (false, eval e X.env) :: starEach es X.env := by rfl) : PA X (e :: es) (tCons te t) := by
  intro pos pins s σ H Q I h
  rw [hs]
  show wpAny _ _ (spliced ((false, eval e X.env) :: backTo pos (starEach es X.env))) _ _ s
  refine Calls.spliced_cons (thn (ha pins s σ H _ I h) fun u s1 ⟨x, H1, I1, r1, q1⟩ => ?_)
  exact thn (hr pos pins s1 σ H1 _ I1 q1) fun us s2 ⟨xs, H2, I2, r2, q2⟩ => ⟨x :: xs, H2, I2, .cons r1 r2, q2⟩
def tTup (t : TA) : TE := fun σ H Q => t σ H fun xs H1 => xs.length ≤ sizeLine ∧ ∀ p, H1 p = none → Q (.ref p) (upd H1 p (.tup xs))
def tLst (t : TA) : TE := fun σ H Q => t σ H fun xs H1 => xs.length ≤ sizeLine ∧ ∀ p, H1 p = none → Q (.ref p) (upd H1 p (.lst xs))
theorem pe_tup {x1} (h : PA X es t) : PE X (.Tuple es x1 pos) (tTup t) := by
  intro pins s σ H Q I hq
  refine wpAny_Tuple_spliced (thn (h pos pins s σ H _ I hq) fun us s1 ⟨xs, H1, I1, r, z, q⟩ => ⟨by rw [← r.length]; exact z, ?_⟩)
  have hf : H1 s1.heap.objs.size = none := I1.hok.fresh (Nat.le_refl _)
  refine ⟨.ref s1.heap.objs.size, upd H1 s1.heap.objs.size (.tup xs), I1.laid (t' := s1.toks) (fun b u e => Heap.get?_push_of_some _ e) (Nat.le_refl _) ?_, rfl, q _ hf⟩
  exact ⟨⟨z, NoD.new⟩, us, r, ⟨_, Heap.get?_push_size _ rfl, rfl, _, rfl⟩⟩
theorem pe_lst (h : PA X es t) : PE X (.List es pos) (tLst t) := by
  intro pins s σ H Q I hq
  refine wpAny_List_spliced (thn (h pos pins s σ H _ I hq) fun us s1 ⟨xs, H1, I1, r, z, q⟩ => ⟨by rw [← r.length]; exact z, ?_⟩)
  have hf : H1 s1.heap.objs.size = none := I1.hok.fresh (Nat.le_refl _)
  refine ⟨.ref s1.heap.objs.size, upd H1 s1.heap.objs.size (.lst xs), I1.laid (t' := s1.toks) (fun b u e => Heap.get?_push_of_some _ e) (Nat.le_refl _) ?_, rfl, q _ hf⟩
  exact ⟨z, us, 0, r, Heap.get?_push_size _ rfl⟩
end
abbrev Sp := List V → Hp → VK → XK → Prop
abbrev CXT := List Env → Hp → Shared → XK → Value → Shared → Prop
structure Env0 (P : Program) (w : World) (K : PySem.W.Frag) (mg : Str → Option Value) (base : Heap) (A : Around) (outer : List Env) (s : Shared) (H : Hp) : Prop where
  frames : A.frames = some outer
  mod : Mod K mg base
  bs : ∀ b o, base.get? b = some o → s.heap.get? b = some o ∧ H b = none
  bsz : base.objs.size ≤ s.heap.objs.size
  funs : s.heap.FunFrames base outer
  frf : ∀ b ∈ frs outer, H b = none
  hok : HOk P w H s.heap
  bare : AllBare s.gens
def CE (outer : List Env) (P : Program) (w : World) (H : Hp) (s : Shared) (Q : VK) (u : Value) (s' : Shared) : Prop :=
  ∃ v H', s'.os = s.os ∧ AllBare s'.gens ∧ Un (frs outer) [] H H' s.heap s'.heap ∧ HOk P w H' s'.heap ∧ RelV v u ∧ Q v H'
def CR (CX : CXT) (outer : List Env) (P : Program) (w : World) (H : Hp) (s : Shared) (Q : VK) (E : XK) (r : Result) (s' : Shared) : Prop :=
  match r with
  | .ok (.ret u) => CE outer P w H s Q u s'
  | .ok _ => False
  | .error e => CX outer H s E e s'
structure FnOk (P : Program) (w : World) (K : PySem.W.Frag) (mg : Str → Option Value) (base : Heap) (CX : CXT) (k : Nat) (f : Addr) (fd : FuncData) (ps : List Str) (sp : Sp) : Prop where
  len : ∀ vs H Q E, sp vs H Q E → vs.length = ps.length
  run : ∀ (A : Around) (outer : List Env) (s : Shared) (H : Hp) (args : Args) (us : List Value) (vs : List V) (Q : VK) (E : XK), Room k A → Env0 P w K mg base A outer s H → BindsTo s fd args (ps.zip us) → Vals vs us → sp vs H Q E →
    codeAny (model P w) A (.call (.ref f) args) (CR CX outer P w H s Q E) s
theorem FnOk.mono {P : Program} {w : World} {K : PySem.W.Frag} {mg : Str → Option Value} {base : Heap} {CX : CXT} {j k : Nat} {f : Addr} {fd : FuncData} {ps : List Str} {sp : Sp} (F : FnOk P w K mg base CX j f fd ps sp) (h : j ≤ k) :
    FnOk P w K mg base CX k f fd ps sp := ⟨F.len, fun A outer s H args us vs Q E hr => F.run A outer s H args us vs Q E (hr.mono h)⟩
theorem Env0.make {P : Program} {w : World} {K : PySem.W.Frag} {mg : Str → Option Value} {base : Heap} {A : Around} {outer : List Env} {s : Shared} {H : Hp} (e : Env0 P w K mg base A outer s H) (C : Addr) (us : List Value) (kw : List (Str × Value)) :
    Env0 P w K mg base (A.under (.builtin "type.__call__" ⟨.ref C :: us, kw⟩)) outer s H := ⟨by first | exact e.frames | (simpa [Around.under, Code.envs, Code.isFrame, pushEnvs] using e.frames), e.mod, e.bs, e.bsz, e.funs, e.frf, e.hok, e.bare⟩
section
variable {X : Cx} {pins : List (Addr × Obj)} {σ : St} {H : Hp} {s s' : Shared}
theorem Inv.env0 (I : Inv X pins σ H s) : Env0 X.prog X.w X.K X.mg X.base X.A X.stack s H :=
  ⟨I.ok.frames, I.ok.mod, I.bs, Nat.le_trans I.ok.bsz I.sz, I.stack, I.stkFree, I.hok, I.bare⟩
theorem Inv.after {Q : VK} {u : Value} (I : Inv X pins σ H s) (h : CE X.stack X.prog X.w H s Q u s') : EP X pins σ Q u s' := by
  obtain ⟨v, H', os, bare, un, hok, r, q⟩ := h
  obtain ⟨hh, g, d, t, os'⟩ := s'
  obtain rfl : os' = s.os := os
  exact ⟨v, H', I.call (h' := hh) (g' := g) (d' := d) (t' := t) (ch := []) un hok bare (fun b z => absurd z (by simp)), r, q⟩
end
def tCall (sp : Sp) (dvs : List V) (E : XK) (t : TA) : TE := fun σ H Q => t σ H fun vs H1 => sp (vs ++ dvs) H1 Q E
def tMake (C : Addr) (sp : Sp) (dvs : List V) (E : XK) (t : TA) : TE := fun σ H Q => t σ H fun vs H1 => ∀ x dx, H1 x = none → H1 dx = none → dx ≠ x →
  sp (.ref x :: (vs ++ dvs)) (upd (upd H1 dx (.own x)) x (.ins C dx [])) (fun v H2 => v = .non ∧ Q (.ref x) H2) E
def Binds (K : PySem.W.Frag) (fd : FuncData) (ps : List Str) (ds : List Value) : Prop :=
  ∀ (s : Shared) (us : List Value), K.In s.heap → (us ++ ds).length = ps.length → BindsTo s fd ⟨us, []⟩ (ps.zip (us ++ ds))
theorem Binds.all {K : PySem.W.Frag} {fd : FuncData} {ps : List Str} (h : ∀ us : List Value, us.length = ps.length → bindArgs fd ⟨us, []⟩ = pure (ps.zip us)) : Binds K fd ps [] := fun s us _ hl => by
  rw [List.append_nil] at hl ⊢
  exact .of_eq (h us hl)
def Passes (CX : CXT) (X : Cx) (E : XK) : Prop := ∀ (pins : List (Addr × Obj)) (σ : St) (H : Hp) (s : Shared) (e : Value) (s' : Shared), Inv X pins σ H s → CX X.stack H s E e s' → X.xe e s'
section
variable {X : Cx} {CX : CXT} {k : Nat} {f C : Addr} {fd : FuncData} {ps : List Str} {sp : Sp} {dvs : List V} {ds : List Value} {E : XK} {x m : Str} {p pos apos : Pos} {e o : Expr} {es : List Expr} {ta : TE} {t : TA}
theorem run_fn {pins : List (Addr × Obj)} {σ : St} {H : Hp} {s : Shared} {Q : VK} {us : List Value} {vs : List V} (F : FnOk X.prog X.w X.K X.mg X.base CX k f fd ps sp) (hr : Room k X.A) (hb : Binds X.K fd ps ds) (hd : Vals dvs ds) (hx : Passes CX X E)
    (I : Inv X pins σ H s) (r : Vals vs us) (h : sp (vs ++ dvs) H Q E) : wpAny (model X.prog X.w) X.A (call (.ref f) us) (EP X pins σ Q) X.xe s := by
  have r2 : Vals (vs ++ dvs) (us ++ ds) := r.append hd
  have hl : (us ++ ds).length = ps.length := by rw [← r2.length]; exact F.len _ _ _ _ h
  refine wpAny_call (codeAny_mono (F.run X.A X.stack s H ⟨us, []⟩ (us ++ ds) (vs ++ dvs) Q E hr I.env0 (hb s us I.kIn hl) r2 h) fun r s' hq => ?_)
  cases r with
  | error e => exact hx pins σ H s e s' I hq
  | ok fl =>
    cases fl with
    | ret u => exact I.after hq
    | next => exact False.elim hq
    | brk => exact False.elim hq
    | cont => exact False.elim hq
theorem pe_call (F : FnOk X.prog X.w X.K X.mg X.base CX k f fd ps sp) (hr : Room k X.A) (hg : Gl X x) (hm : X.mg x = some (.ref f)) (hk : PySem.W.keepIn X.K (.ref f) = true) (hb : Binds X.K fd ps ds) (hd : Vals dvs ds) (hx : Passes CX X E)
    (ha : PA X (e :: es) t) (hdb : (x == ("__debug__" : Str)) = false := by decide) (he : starEach (e :: es) X.env = (false, eval e X.env) :: starEach es X.env := by rfl) (hpl : (backTo pos (starEach es X.env)).any (·.1) = false := by rfl) :
    PE X (.Call (.Name x p) (e :: es) [] pos) (tCall sp dvs E t) := by
  intro pins s σ H Q I h
  refine wpAny_Call_Name_kw (ld_glob I hg hm ?_ hdb)
  refine PySem.W.callWith_K (h₀ := X.base) I.ok.mod.kin hk (thn (ha pos pins s σ H _ I h) fun us s1 ⟨vs, H1, I1, r, q⟩ => ⟨I1.kIn, ?_⟩) he hpl
  exact run_fn F hr hb hd hx I1 r q
structure Mk (K : PySem.W.Frag) (C f : Addr) : Prop where
  makes : PySem.W.makesIn K C = true
  init : PySem.W.findIn K (.ref C) "__init__" = some (some (.ref f))
  fn : PySem.W.isFn K (.ref f) = true
  kp : PySem.W.keepIn K (.ref C) = true
theorem run_make {pins : List (Addr × Obj)} {σ : St} {H : Hp} {s : Shared} {Q : VK} {us : List Value} {vs : List V} (M : Mk X.K C f) (F : FnOk X.prog X.w X.K X.mg X.base CX k f fd ps sp) (hr : Room (k + 1) X.A) (hb : Binds X.K fd ps ds) (hd : Vals dvs ds)
    (hx : Passes CX X E) (I : Inv X pins σ H s) (r : Vals vs us)
    (h : ∀ x dx, H x = none → H dx = none → dx ≠ x → sp (.ref x :: (vs ++ dvs)) (upd (upd H dx (.own x)) x (.ins C dx [])) (fun v H2 => v = .non ∧ Q (.ref x) H2) E) :
    wpAny (model X.prog X.w) X.A (call (.ref C) us) (EP X pins σ Q) X.xe s := by
  have hq := h (s.heap.objs.size + 1) s.heap.objs.size (I.hok.fresh (Nat.le_succ _)) (I.hok.fresh (Nat.le_refl _)) (Nat.ne_of_lt (Nat.lt_succ_self _))
  have I2 := Inv.made (C := C) I
  have r2 : Vals (V.ref (s.heap.objs.size + 1) :: (vs ++ dvs)) (Value.ref (s.heap.objs.size + 1) :: (us ++ ds)) := .cons rfl (r.append hd)
  have hl : (Value.ref (s.heap.objs.size + 1) :: us ++ ds).length = ps.length := by
    have e := r2.length
    rw [F.len _ _ _ _ hq] at e
    exact e.symm
  refine wpAny_call (make_map (f := f) I.kIn M.makes M.init (beq_iff_eq.mp M.fn) (codeAny_mono (F.run _ X.stack _ _ ⟨Value.ref (s.heap.objs.size + 1) :: us, []⟩ (Value.ref (s.heap.objs.size + 1) :: (us ++ ds)) _ _ E (hr.make C us [])
    (I2.env0.make C us []) (hb _ (Value.ref (s.heap.objs.size + 1) :: us) I2.kIn hl) r2 hq) fun r s' hq' => ?_))
  cases r with
  | error e => exact hx pins σ _ _ e s' I2 hq'
  | ok fl =>
    cases fl with
    | ret u =>
      obtain ⟨v, H', I3, rv, ev, q3⟩ := I2.after hq'
      subst ev
      exact ⟨rv, ⟨V.ref (s.heap.objs.size + 1), H', I3, rfl, q3⟩⟩
    | next => exact False.elim hq'
    | brk => exact False.elim hq'
    | cont => exact False.elim hq'
theorem pe_make (M : Mk X.K C f) (F : FnOk X.prog X.w X.K X.mg X.base CX k f fd ps sp) (hr : Room (k + 1) X.A) (hg : Gl X x) (hm : X.mg x = some (.ref C)) (hb : Binds X.K fd ps ds) (hd : Vals dvs ds) (hx : Passes CX X E)
    (ha : PA X (e :: es) t) (hdb : (x == ("__debug__" : Str)) = false := by decide) (he : starEach (e :: es) X.env = (false, eval e X.env) :: starEach es X.env := by rfl) (hpl : (backTo pos (starEach es X.env)).any (·.1) = false := by rfl) :
    PE X (.Call (.Name x p) (e :: es) [] pos) (tMake C sp dvs E t) := by
  intro pins s σ H Q I h
  refine wpAny_Call_Name_kw (ld_glob I hg hm ?_ hdb)
  refine PySem.W.callWith_K (h₀ := X.base) I.ok.mod.kin M.kp (thn (ha pos pins s σ H _ I h) fun us s1 ⟨vs, H1, I1, r, q⟩ => ⟨I1.kIn, ?_⟩) he hpl
  exact run_make M F hr hb hd hx I1 r q
end
structure FnScope (N P : List Str) (sc : Scope) : Prop where
  kind : sc.kind = .function
  co : sc.isCoroutine = false
  gen : sc.isGenerator = false
  nd : N.Nodup
  pre : N.take P.length = P
  par : ∀ x ∈ P, sc.names.lookup x = some .local ∨ sc.names.lookup x = some .cell
  nofree : ∀ y ∈ sc.names, y.2 ≠ .free
theorem bindL_out {kindOf : Str → Option NameKind} {x : Str} : ∀ {binds : List (Str × Value)} {m : Str → Option Value}, (∀ v, (x, v) ∉ binds) → bindL kindOf binds m x = m x
  | [], _, _ => rfl
  | (n, v) :: r, m, h => by
    unfold bindL
    rw [bindL_out fun w hw => h w (List.mem_cons_of_mem _ hw)]
    split
    · have : x ≠ n := by rintro rfl; exact h v List.mem_cons_self
      simp [this]
    · rfl
theorem bindC_out {kindOf : Str → Option NameKind} {x : Str} : ∀ {binds : List (Str × Value)} {m : Str → Option Value}, (∀ v, (x, v) ∉ binds) → bindC kindOf binds m x = m x
  | [], _, _ => rfl
  | (n, v) :: r, m, h => by
    unfold bindC
    rw [bindC_out fun w hw => h w (List.mem_cons_of_mem _ hw)]
    split
    · rfl
    · have : x ≠ n := by rintro rfl; exact h v List.mem_cons_self
      simp [this]
theorem bindL_get {kindOf : Str → Option NameKind} {x : Str} {v : Value} : ∀ {P : List Str} {vs : List Value} {i : Nat} {m : Str → Option Value}, P.Nodup → P[i]? = some x → vs[i]? = some v → kindOf x = some .local →
    bindL kindOf (P.zip vs) m x = some v
  | [], _, _, _, _, h, _, _ => by simp at h
  | _ :: _, [], _, _, _, _, h, _ => by simp at h
  | p :: P, w :: vs, 0, m, nd, h1, h2, hk => by
    simp at h1 h2; subst h1; subst h2
    show bindL kindOf ((p, w) :: P.zip vs) m p = _
    unfold bindL
    rw [bindL_out fun v hv => (List.nodup_cons.mp nd).1 (List.of_mem_zip hv).1, if_pos hk]
    simp
  | p :: P, w :: vs, i + 1, m, nd, h1, h2, hk => by
    show bindL kindOf ((p, w) :: P.zip vs) m x = _
    unfold bindL
    exact bindL_get (i := i) (List.nodup_cons.mp nd).2 (by simpa using h1) (by simpa using h2) hk
theorem bindC_get {kindOf : Str → Option NameKind} {x : Str} {v : Value} : ∀ {P : List Str} {vs : List Value} {i : Nat} {m : Str → Option Value}, P.Nodup → P[i]? = some x → vs[i]? = some v → kindOf x ≠ some .local →
    bindC kindOf (P.zip vs) m x = some v
  | [], _, _, _, _, h, _, _ => by simp at h
  | _ :: _, [], _, _, _, _, h, _ => by simp at h
  | p :: P, w :: vs, 0, m, nd, h1, h2, hk => by
    simp at h1 h2; subst h1; subst h2
    show bindC kindOf ((p, w) :: P.zip vs) m p = _
    unfold bindC
    rw [bindC_out fun v hv => (List.nodup_cons.mp nd).1 (List.of_mem_zip hv).1, if_neg hk]
    simp
  | p :: P, w :: vs, i + 1, m, nd, h1, h2, hk => by
    show bindC kindOf ((p, w) :: P.zip vs) m x = _
    unfold bindC
    exact bindC_get (i := i) (List.nodup_cons.mp nd).2 (by simpa using h1) (by simpa using h2) hk
def start (N : List Str) (vs : List V) : St := vs.map some ++ List.replicate (N.length - vs.length) none
def cxOf (CX : CXT) (P : Program) (w : World) (K : PySem.W.Frag) (mg : Str → Option Value) (base : Heap) (N : List Str) (qual : Str) (scope : Scope) (f : Addr) (cd : Value) (A : Around) (outer : List Env) (s : Shared) (H : Hp) (E : XK) : Cx where
  prog := P
  w := w
  K := K
  mg := mg
  base := base
  A := A.deeper (envOfC qual scope s.heap.objs.size f cd)
  N := N
  s₀ := s
  H₀ := H
  env := envOfC qual scope s.heap.objs.size f cd
  outer := outer
  stack := envOfC qual scope s.heap.objs.size f cd :: outer
  ex := []
  calm := true
  fn := fun _ => true
  pn := []
  xe := fun e s' => wpAny (model P w) (A.deeper (envOfC qual scope s.heap.objs.size f cd)) (leaving (envOfC qual scope s.heap.objs.size f cd) e) (fun _ s'' => CX outer H s E e s'') (fun e' s'' => CX outer H s E e' s'') s'
theorem cell_has {sc : Scope} {n : Nat} {x : Str} (h : sc.names.lookup x = some .cell) : ∃ c, (cellsFrom n sc.names []).lookup x = some c := by
  have q := PySem.W.cellsFrom_some sc.names n [] (.inl h)
  exact Option.isSome_iff_exists.mp q
theorem inv_start {CX : CXT} {P : Program} {w : World} {K : PySem.W.Frag} {mg : Str → Option Value} {base : Heap} {N ps : List Str} {qual : Str} {scope : Scope} {f : Addr} {cd : Value} {A : Around} {outer : List Env} {s s1 : Shared} {H : Hp} {E : XK} {us : List Value} {vs : List V}
    (S : FnScope N ps scope) (hd : A.handled = none) (e0 : Env0 P w K mg base A outer s H) (hl : vs.length = ps.length) (r : Vals vs us)
    (x : InCallC s s.heap.objs.size (bindL (envOfC qual scope s.heap.objs.size f cd).kindOf (ps.zip us) fun _ => none) (cellsFrom (s.heap.objs.size + 1) scope.names []) (bindC (envOfC qual scope s.heap.objs.size f cd).kindOf (ps.zip us) fun _ => none) s1) :
    Inv (cxOf CX P w K mg base N qual scope f cd A outer s H E) [] (start N vs) H s1 := by
  have hpl : ps.length ≤ N.length := by have := congrArg List.length S.pre; rw [List.length_take] at this; omega
  obtain ⟨h1, tk, rfl, hk⟩ := x.done
  have noA : ∀ b : Addr, b ∉ (cxOf CX P w K mg base N qual scope f cd A outer s H E).ex := fun b z => absurd (show b ∈ ([] : List Addr) from z) (by simp)
  refine ⟨⟨e0.mod, S.kind, rfl, rfl, Nat.le_refl _, fun y z c h1 h2 => ?_, fun y hy => ?_, fun y c _ h => ?_, fun _ => hd, Around.frames_deeper e0.frames, .inr ⟨rfl, rfl⟩, fun b z => absurd z (noA b), e0.bs, e0.bsz, fun b _ _ => noA b, fun b z => absurd z (noA b), e0.funs, e0.frf⟩,
    rfl, e0.bare, Un.kept hk, ⟨_, x.toInCall.ns, fun i y v h1 h2 h3 => ?_⟩, fun y c h => ⟨_, x.cell y c h⟩, e0.hok.fresh (Nat.le_refl _), fun y c h => ?_, fun p hp => absurd (show p ∈ ([] : List (Addr × Obj)) from hp) (by simp), e0.hok.kept hk, ?_⟩
  · exact name_of_addr x.apart (PySem.mem_of_lookup h1) (PySem.mem_of_lookup h2)
  · have hy : scope.names.lookup y = some .cell ∨ scope.names.lookup y = some .free := hy
    rcases hy with hy | hy
    · exact cell_has hy
    · exact absurd rfl (S.nofree _ (PySem.mem_of_lookup hy))
  · exact Nat.le_of_lt (x.above y c (PySem.mem_of_lookup h))
  · have hi : i < vs.length := by
      unfold start at h2
      by_cases hi : i < vs.length
      · exact hi
      · rw [List.getElem?_append_right (by simpa using hi)] at h2
        rw [List.getElem?_replicate] at h2
        split at h2 <;> cases h2
    have ha : vs[i]? = some v := by
      unfold start at h2
      rw [List.getElem?_append_left (by simpa using hi), List.getElem?_map] at h2
      cases e : vs[i]? with
      | none => rw [e] at h2; cases h2
      | some a => rw [e] at h2; cases h2; rfl
    obtain ⟨u, hu, rv⟩ := r.get ha
    have hp : ps[i]? = some y := by
      rw [← S.pre, List.getElem?_take_of_lt (by omega)]; exact h1
    have ndP : ps.Nodup := by rw [← S.pre]; exact S.nd.sublist (List.take_sublist _ _)
    refine ⟨u, rv, ?_⟩
    rcases S.par y (List.mem_of_getElem? hp) with k | k
    · exact .inl ⟨k, bindL_get ndP hp hu k⟩
    · obtain ⟨c, e⟩ := cell_has (n := s.heap.objs.size + 1) k
      refine .inr ⟨.inl k, c, e, ?_⟩
      have q := x.cell y c e
      rw [bindC_get ndP hp hu (by show scope.names.lookup y ≠ _; rw [k]; decide)] at q
      exact q
  · exact e0.hok.fresh (Nat.le_of_lt (x.above y c (PySem.mem_of_lookup h)))
  · unfold start
    show _ = N.length
    rw [List.length_append, List.length_map, List.length_replicate]
    omega
theorem fn_of {CX : CXT} {P : Program} {w : World} {K : PySem.W.Frag} {mg : Str → Option Value} {base : Heap} {k : Nat} {f : Addr} {name qual : Str} {params : Arguments} {body : List Stmt} {scope : Scope} {dV kV doc pm cdv ct oc : Value} {an od : Option Addr}
    {osl : Array (Option Value)} {N ps : List Str} {sp : Sp} (lk : K.lookup f = some ⟨oc, od, .func (PySem.W.fnOf name qual params body scope dV kV doc pm an cdv ct), osl⟩) (hcd : PySem.W.codeIn K cdv qual = true) (S : FnScope N ps scope)
    (len : ∀ vs H Q E, sp vs H Q E → vs.length = ps.length)
    (hbody : ∀ (A : Around) (outer : List Env) (s : Shared) (H : Hp) (vs : List V) (Q : VK) (E : XK), Room k (A.deeper (envOfC qual scope s.heap.objs.size f cdv)) → sp vs H Q E →
      ∃ t, PSs (cxOf CX P w K mg base N qual scope f cdv A outer s H E) body t ∧ t { nx := fun _ H' => Q .non H', rt := Q } (start N vs) H) :
    FnOk P w K mg base CX (k + 1) f (PySem.W.fnOf name qual params body scope dV kV doc pm an cdv ct) ps sp := by
  refine ⟨len, fun A outer s H args us vs Q E hr e0 hb r hsp => ?_⟩
  have hl := len _ _ _ _ hsp
  have KX : K.In s.heap := e0.mod.kin.keeps fun b o e => (e0.bs b o e).1
  have lim : s.heap.NoLimit := e0.mod.nolimit.keeps fun b o e => (e0.bs b o e).1
  have hkind : ∀ y ∈ ps.zip us, scope.names.lookup y.1 = some .local ∨ (scope.names.lookup y.1 = some .cell ∧ ((cellsFrom (s.heap.objs.size + 1) scope.names []).lookup y.1).isSome = true) := fun ⟨n, v⟩ hy => by
    rcases S.par n (List.of_mem_zip hy).1 with q | q
    · exact .inl q
    · exact .inr ⟨q, PySem.W.cellsFrom_some _ _ _ (.inl q)⟩
  refine codeAny_call_function hr.depth (KX _ _ lk) rfl S.co S.gen rfl (PySem.W.codeRec_of KX hcd) (hb _ _ _ _ ?_)
  refine wpAny_newFunctionEnv_cells S.kind hkind fun env he s1 x => ?_
  subst he
  refine ⟨lim.keeps x.toInCall.keep, codeAny_func ?_⟩
  obtain ⟨t, ht, hq⟩ := hbody A outer s H vs Q E (hr.deeper _) hsp
  have I : Inv (cxOf CX P w K mg base N qual scope f cdv A outer s H E) [] (start N vs) H s1 := inv_start S hr.hd e0 hl r x
  refine wpAny_mono (ht [] s1 (start N vs) H _ I hq) (fun fl s' hs => ?_) fun e s' hs => hs
  have fin : ∀ {σ' : St} {H' : Hp} {v : V} {u : Value}, Inv (cxOf CX P w K mg base N qual scope f cdv A outer s H E) [] σ' H' s' → RelV v u → Q v H' → CE outer P w H s Q u s' :=
    fun {σ' H' v u} J rv q => ⟨v, H', J.os, J.bare, J.base, J.hok, rv, q⟩
  cases fl with
  | ret u =>
    obtain ⟨v, σ', H', J, rv, q⟩ := hs
    exact fin J rv q
  | next =>
    obtain ⟨σ', H', J, q⟩ := hs
    exact fin (v := V.non) (u := Value.none) J rfl q
  | brk =>
    obtain ⟨_, _, _, q⟩ := hs
    exact False.elim q
  | cont =>
    obtain ⟨_, _, _, q⟩ := hs
    exact False.elim q
end L2
namespace L2
open PySem PySem.Spec PyProof.Rows
section
variable {X : Cx} {x : Str} {p pos : Pos} {e : Expr} {es : List Expr} {t : TA} {id T : String} {r : List V → Hp → VK → Prop}
def tCB (r : List V → Hp → VK → Prop) (t : TA) : TE := fun σ H Q => t σ H fun vs H1 => r vs H1 Q
theorem pe_callB (hc : CallR X (.builtin id) r) (hg : Gl X x) (hm : X.mg x = none) (hv : bootBuiltins x = some (.builtin id)) (ha : PA X (e :: es) t) (hn : x ≠ "__name__" := by decide) (hdb : (x == ("__debug__" : Str)) = false := by decide)
    (he : starEach (e :: es) X.env = (false, eval e X.env) :: starEach es X.env := by rfl) (hpl : (backTo pos (starEach es X.env)).any (·.1) = false := by rfl) : PE X (.Call (.Name x p) (e :: es) [] pos) (tCB r t) := by
  intro pins s σ H Q I h
  refine wpAny_Call_Name_kw (ld_blt I hg hm hv ?_ hn hdb)
  exact PyProof.Rows.callWith_builtin1 (thn (ha pos pins s σ H _ I h) fun us s1 ⟨vs, H1, I1, r1, q1⟩ => hc pins s1 σ H1 vs us Q I1 r1 q1) he hpl
theorem pe_callTy (hc : CallR X (.type T) r) (hg : Gl X x) (hm : X.mg x = none) (hv : bootBuiltins x = some (.type T)) (ha : PA X (e :: es) t) (hn : x ≠ "__name__" := by decide) (hdb : (x == ("__debug__" : Str)) = false := by decide)
    (he : starEach (e :: es) X.env = (false, eval e X.env) :: starEach es X.env := by rfl) (hpl : (backTo pos (starEach es X.env)).any (·.1) = false := by rfl) : PE X (.Call (.Name x p) (e :: es) [] pos) (tCB r t) := by
  intro pins s σ H Q I h
  refine wpAny_Call_Name_kw (ld_blt I hg hm hv ?_ hn hdb)
  exact PyProof.Rows.callWith_type1 (thn (ha pos pins s σ H _ I h) fun us s1 ⟨vs, H1, I1, r1, q1⟩ => hc pins s1 σ H1 vs us Q I1 r1 q1) he hpl
end
end L2
namespace HT
open PySem PyProof.Rows
section
variable {prog : Program} {w : World} {A : Around} {E : Value → Shared → Prop} {s : Shared}
def sIx (n d : Nat) : Option Int → Nat
  | none => d
  | some v => if v < 0 then (v + (n : Int)).toNat else min v.toNat n
end
end HT
namespace L2
open PySem PySem.Spec PyProof.Rows
abbrev TO := St → Hp → (Option Int → Hp → Prop) → Prop
def PO (X : Cx) (e : Option Expr) (t : TO) : Prop :=
  ∀ (pins : List (Addr × Obj)) (s : Shared) (σ : St) (H : Hp) (Q : Option Int → Hp → Prop), Inv X pins σ H s → t σ H Q →
    wpAny (model X.prog X.w) X.A (evalPart e X.env) (fun u s' => ∃ o H', Inv X pins σ H' s' ∧ IsPart u o ∧ Q o H') X.xe s
def tNoPart : TO := fun _ H Q => Q none H
def tPart (t : TE) : TO := fun σ H Q => t σ H fun x H1 => ∃ i, x = .int i ∧ Q (some i) H1
theorem intsAre_of {ns : List Int} : ∀ {us : List Value}, Vals (ns.map V.int) us → IntsAre us ns := by
  induction ns with
  | nil => intro us r; rw [List.map_nil] at r; cases r; exact .nil
  | cons n ns ih =>
    intro us r
    rw [List.map_cons] at r
    cases r with
    | cons r1 r2 =>
      obtain ⟨t, e⟩ := r1
      subst e
      exact .cons n t (ih r2)
section
variable {X : Cx} {e : Expr} {te : TE} {lo hi : Option Expr} {tl th : TO} {pos p2 : Pos}
theorem po_none : PO X none tNoPart := by
  intro pins s σ H Q I h
  rw [evalPart_none]
  exact wpAny_pure ⟨none, H, I, .none, h⟩
theorem po_some (h : PE X e te) : PO X (some e) (tPart te) := by
  intro pins s σ H Q I hw
  rw [evalPart_some]
  refine thn (h pins s σ H _ I hw) fun u s1 ⟨x, H1, I1, r1, q1⟩ => ?_
  obtain ⟨i, rfl, q⟩ := q1
  obtain ⟨t, rfl⟩ := r1
  exact ⟨some i, H1, I1, .int i t, q⟩
def SlR (X : Cx) (r : V → Option Int → Option Int → Hp → VK → Prop) : Prop :=
  ∀ (pins : List (Addr × Obj)) (s : Shared) (σ : St) (H : Hp) (x : V) (v vl vu : Value) (lo hi : Option Int) (sl : Addr) (Q : VK), Inv X pins σ H s → RelV x v → s.heap.IsSliceOf sl vl vu .none → IsPart vl lo → IsPart vu hi → r x lo hi H Q →
    ∃ T id, typeLookup (.type T) "__getitem__" = pure (some (.builtin id)) ∧ s.TypeIs v T ∧ wpAny (model X.prog X.w) X.A (getItem v (.ref sl)) (EP X pins σ Q) X.xe s
theorem SlR.or {r r' : V → Option Int → Option Int → Hp → VK → Prop} (h : SlR X r) (h' : SlR X r') : SlR X (fun x lo hi H Q => r x lo hi H Q ∨ r' x lo hi H Q) := by
  intro pins s σ H x v vl vu lo hi sl Q I rx hs pl pu q
  rcases q with q | q
  · exact h pins s σ H x v vl vu lo hi sl Q I rx hs pl pu q
  · exact h' pins s σ H x v vl vu lo hi sl Q I rx hs pl pu q
def tSl (r : V → Option Int → Option Int → Hp → VK → Prop) (te : TE) (tl th : TO) : TE := fun σ H Q => te σ H fun x H1 => tl σ H1 fun l H2 => th σ H2 fun u H3 => r x l u H3 Q
theorem pe_slice {r : V → Option Int → Option Int → Hp → VK → Prop} (hr : SlR X r) (he : PE X e te) (hl : PO X lo tl) (hu : PO X hi th) : PE X (.Subscript e (.Slice lo hi none p2) pos) (tSl r te tl th) := by
  intro pins s σ H Q I h
  refine Subscript_ (thn (he pins s σ H _ I h) fun v s1 ⟨x, H1, I1, r1, q1⟩ => ?_)
  refine wpAny_Slice (thn (hl pins s1 σ H1 _ I1 q1) fun vl s2 ⟨l, H2, I2, pl, q2⟩ => thn (hu pins s2 σ H2 _ I2 q2) fun vu s3 ⟨u, H3, I3, pu, q3⟩ => ?_)
  rw [evalPart_none]
  refine wpAny_pure ?_
  have I4 : Inv X pins σ H3 { s3 with heap := s3.heap.push { cls := .type "slice", data := .fields #[vl, vu, .none] } } := I3.kept (t' := s3.toks) fun b ob q => Heap.get?_push_of_some _ q
  obtain ⟨T, id, hT, ht, hg⟩ := hr pins { s3 with heap := s3.heap.push { cls := .type "slice", data := .fields #[vl, vu, .none] } } σ H3 x v vl vu l u s3.heap.objs.size Q I4 r1 (Heap.IsSliceOf.new ..) pl pu q3
  show wpAny (model X.prog X.w) X.A (subscriptTail e (.Slice lo hi none p2) v (.ref s3.heap.objs.size)) (EP X pins σ Q) X.xe { s3 with heap := s3.heap.push { cls := .type "slice", data := .fields #[vl, vu, .none] } }
  exact tail_any (ops := [.ref s3.heap.objs.size, v]) ht hT hg (by with_unfolding_all rfl)
def cutV (xs : List V) (lo hi : Option Int) : List V := (xs.drop (HT.sIx xs.length 0 lo)).take (HT.sIx xs.length xs.length hi - HT.sIx xs.length 0 lo)
theorem cutV_length (xs : List V) (lo hi : Option Int) : (cutV xs lo hi).length ≤ xs.length := by
  unfold cutV
  rw [List.length_take, List.length_drop]
  omega
end
end L2
namespace L2
open PySem PySem.Spec PyProof.Rows
def ixN (n : Nat) (i : Int) : Option Nat := if 0 ≤ i then (if i < n then some i.toNat else none) else if -(n : Int) ≤ i then some (i + n).toNat else none
def atI {α : Type} (xs : List α) (i : Int) : Option α := (ixN xs.length i).bind fun j => xs[j]?
theorem ixN_seq {n : Nat} {i : Int} {j : Nat} (h : ixN n i = some j) : seqIndex? i n = some j ∧ j < n ∧ -(n : Int) ≤ i ∧ i < n := by
  unfold ixN at h
  by_cases h0 : 0 ≤ i
  · rw [if_pos h0] at h
    by_cases h1 : i < n
    · rw [if_pos h1] at h
      have e : i.toNat = j := Option.some.inj h
      exact ⟨by rw [seqIndex_of h0 h1, e], by omega, by omega, h1⟩
    · rw [if_neg h1] at h; cases h
  · rw [if_neg h0] at h
    by_cases h1 : -(n : Int) ≤ i
    · rw [if_pos h1] at h
      have e : (i + n).toNat = j := Option.some.inj h
      exact ⟨by rw [seqIndex_neg (by omega) h1, e], by omega, h1, by omega⟩
    · rw [if_neg h1] at h; cases h
theorem atI_get {α : Type} {xs : List α} {i : Int} {v : α} (h : atI xs i = some v) : ∃ j, seqIndex? i xs.length = some j ∧ xs[j]? = some v ∧ j < xs.length ∧ -(xs.length : Int) ≤ i ∧ i < xs.length := by
  unfold atI at h
  cases e : ixN xs.length i with
  | none => rw [e] at h; cases h
  | some j =>
    rw [e] at h
    obtain ⟨h1, h2, h3, h4⟩ := ixN_seq e
    exact ⟨j, h1, h, h2, h3, h4⟩
def PlainIx (b : Expr) : Prop := ∀ o i, subscripted b false o i = operate [o, i] (getItem o i)
def IxR (X : Cx) (r : R2) : Prop :=
  ∀ (value slice : Expr) (pins : List (Addr × Obj)) (s : Shared) (σ : St) (H : Hp) (x y : V) (v u : Value) (Q : VK), Inv X pins σ H s → RelV x v → RelV y u → r x y H Q →
    subscripted slice false v u = operate [v, u] (getItem v u) → wpAny (model X.prog X.w) X.A (subscriptTail value slice v u) (EP X pins σ Q) X.xe s
def MtR (X : Cx) (id : String) (r : V → List V → Hp → VK → Prop) : Prop :=
  ∀ (pins : List (Addr × Obj)) (s : Shared) (σ : St) (H : Hp) (x : V) (xs : List V) (v : Value) (us : List Value) (Q : VK), Inv X pins σ H s → RelV x v → Vals xs us → r x xs H Q →
    wpAny (model X.prog X.w) X.A (call (.builtin id) (v :: us)) (EP X pins σ Q) X.xe s
section
variable {X : Cx} {a b : Expr} {ta tb : TE} {pos : Pos}
theorem IxR.or {r r' : R2} (h : IxR X r) (h' : IxR X r') : IxR X (fun x y H Q => r x y H Q ∨ r' x y H Q) := by
  intro value slice pins s σ H x y v u Q I rx ry q hs
  rcases q with q | q
  · exact h value slice pins s σ H x y v u Q I rx ry q hs
  · exact h' value slice pins s σ H x y v u Q I rx ry q hs
theorem pe_ix {r : R2} (hr : IxR X r) (ha : PE X a ta) (hb : PE X b tb) (hs : PlainIx b) : PE X (.Subscript a b pos) (tOp r ta tb) := by
  intro pins s σ H Q I h
  exact Subscript_ (binT ha hb I h fun v u s2 x y H2 I2 rx ry q => hr a b pins s2 σ H2 x y v u Q I2 rx ry q (hs _ _))
def rIxL (K : PySem.W.Frag) : R2 := fun x y H Q => ∃ p xs i v, x = .ref p ∧ y = .int i ∧ SqL K H p xs ∧ atI xs i = some v ∧ Q v H
def rIxT (K : PySem.W.Frag) : R2 := fun x y H Q => ∃ p xs i v, x = .ref p ∧ y = .int i ∧ SqT K H p xs ∧ atI xs i = some v ∧ Q v H
def rIxS : R2 := fun x y H Q => ∃ z i c, x = .str z ∧ y = .int i ∧ z.length ≤ sizeLine ∧ atI z.cps.toList i = some c ∧ Q (.str ⟨#[c]⟩) H
theorem ix_list : IxR X (rIxL X.K) := by
  intro value slice pins s σ H x y v u Q I rx ry h hs
  obtain ⟨p, xs, i, z, rfl, rfl, hq, he, q⟩ := h
  cases rx
  obtain ⟨t, rfl⟩ := ry
  obtain ⟨its, r, pl, hz⟩ := I.list hq
  obtain ⟨j, h1, h2, h3, h4, h5⟩ := atI_get he
  obtain ⟨w, ew, rw'⟩ := r.get h2
  have hl := r.length
  have hn := line63
  have fin : EP X pins σ Q w s := ⟨z, H, I, rw', q⟩
  by_cases h0 : 0 ≤ i
  · have hj : i.toNat = j := by
      rw [seqIndex_of h0 h5] at h1
      exact Option.some.inj h1
    exact item_listR pl.isList h0 (by omega) (by rw [hj]; simpa using ew) fin hs
  · have hj : (i + (its.toArray.size : Int)).toNat = j := by
      rw [seqIndex_neg (by omega) h4] at h1
      rw [List.size_toArray, ← hl]
      exact Option.some.inj h1
    exact subscriptTail_builtinR (x := w) pl.isList.typeIs slot_list_getitem.lookup
      (wpAny_getItem_list_neg (Q := fun r s' => r = w ∧ EP X pins σ Q r s') pl.isList (by omega) (by rw [List.size_toArray] <;> omega) (by omega) (by rw [hj]; simpa using ew) ⟨rfl, fin⟩) hs
theorem ix_tup : IxR X (rIxT X.K) := by
  intro value slice pins s σ H x y v u Q I rx ry h hs
  obtain ⟨p, xs, i, z, rfl, rfl, hq, he, q⟩ := h
  cases rx
  obtain ⟨t, rfl⟩ := ry
  obtain ⟨its, r, pl, hz⟩ := I.tuple hq
  obtain ⟨j, h1, h2, h3, h4, h5⟩ := atI_get he
  obtain ⟨w, ew, rw'⟩ := r.get h2
  have hl := r.length
  have hn := line63
  have fin : EP X pins σ Q w s := ⟨z, H, I, rw', q⟩
  exact subscriptTail_builtinR (x := w) pl.typeIs slot_tuple_getitem.lookup
    (getItem_tuple (j := j) (Q := fun r s' => r = w ∧ EP X pins σ Q r s') pl (by omega) (by omega) (by rw [List.size_toArray, ← hl]; exact h1) (by simpa using ew) ⟨rfl, fin⟩) hs
theorem ix_str : IxR X rIxS := by
  intro value slice pins s σ H x y v u Q I rx ry h hs
  obtain ⟨z, i, c, rfl, rfl, hz, he, q⟩ := h
  obtain ⟨t, rfl⟩ := rx
  obtain ⟨t', rfl⟩ := ry
  obtain ⟨j, h1, h2, h3, h4, h5⟩ := atI_get he
  have hl : z.cps.toList.length = z.length := by simp [Str.length]
  rw [hl] at h1 h4 h5
  have hn := line63
  exact tail_any (typeIs_str s z t) slot_str_getitem.lookup (getItem_str (c := c) (by
    have e1 : decide (i < -(2 ^ 63 : Int)) = false := decide_eq_false (by omega)
    have e2 : decide (i ≥ 2 ^ 63) = false := decide_eq_false (by omega)
    rw [e1, e2, Bool.or_false]) (by rw [h1]; simpa using h2) ⟨.str ⟨#[c]⟩, H, I.tok _, ⟨_, rfl⟩, q⟩) hs
def rIx (K : PySem.W.Frag) : R2 := fun x y H Q => rIxL K x y H Q ∨ rIxT K x y H Q ∨ rIxS x y H Q
theorem ix_seq : IxR X (rIx X.K) := ix_list.or (ix_tup.or ix_str)
theorem slice_bounds (lo hi : Option Int) (n : Nat) : (sliceBounds lo hi none n).1 = ((HT.sIx n 0 lo : Nat) : Int) ∧ (sliceBounds lo hi none n).2.1 = ((HT.sIx n n hi : Nat) : Int) ∧ (sliceBounds lo hi none n).2.2 = 1 := by
  refine ⟨?_, ?_, rfl⟩
  · cases lo with
    | none => simp [sliceBounds, HT.sIx]
    | some i =>
      simp only [sliceBounds, HT.sIx, Option.getD_none, show (1 : Int) > 0 by decide, if_true]
      by_cases h : i < 0
      · simp only [h, if_true] <;> omega
      · simp only [h, if_false] <;> omega
  · cases hi with
    | none => simp [sliceBounds, HT.sIx]
    | some i =>
      simp only [sliceBounds, HT.sIx, Option.getD_none, show (1 : Int) > 0 by decide, if_true]
      by_cases h : i < 0
      · simp only [h, if_true] <;> omega
      · simp only [h, if_false] <;> omega
theorem slicePick_cut (its : List Value) (lo hi : Option Int) : slicePick its.toArray lo hi none = ((its.drop (HT.sIx its.length 0 lo)).take (HT.sIx its.length its.length hi - HT.sIx its.length 0 lo)).toArray := by
  obtain ⟨h1, h2, h3⟩ := slice_bounds lo hi its.toArray.size
  unfold slicePick
  rw [h1, h2, h3]
  simp only [sliceRange_one, pick_run, List.size_toArray] <;> rfl
def rSlL (K : PySem.W.Frag) : V → Option Int → Option Int → Hp → VK → Prop := fun x lo hi H Q => ∃ a xs, x = .ref a ∧ SqL K H a xs ∧ ∀ p, H p = none → Q (.ref p) (upd H p (.lst (cutV xs lo hi)))
theorem sl_list : SlR X (rSlL X.K) := by
  intro pins s σ H x v vl vu lo hi sl Q I rx hs pl pu h
  obtain ⟨a, xs, rfl, hx, q⟩ := h
  cases rx
  obtain ⟨its, r, ht, hz⟩ := I.list hx
  have hlen := r.length
  refine ⟨"list", _, slot_list_getitem.lookup, ht.isList.typeIs, ?_⟩
  refine wpAny_getItem_list_slice ht.isList hs pl pu .none (by simp) ?_ (by rw [List.size_toArray] <;> omega)
  rw [slicePick_cut, ← hlen]
  refine ⟨.ref s.heap.objs.size, _, I.laid (t' := s.toks) (o := .lst (cutV xs lo hi)) (fun b ob q => Heap.get?_push_of_some _ q) (Nat.le_refl _) ?_, rfl, q _ (I.hok.fresh (Nat.le_refl _))⟩
  exact ⟨Nat.le_trans (cutV_length xs lo hi) hz, _, 0, (r.drop (HT.sIx xs.length 0 lo)).take (HT.sIx xs.length xs.length hi - HT.sIx xs.length 0 lo), Heap.get?_push_size _ rfl⟩
def flatV : V → Bool
  | .non => true
  | .bl _ => true
  | .int _ => true
  | .str _ => true
  | _ => false
def eqV : V → V → Bool
  | .non, .non => true
  | .bl a, .bl b => a == b
  | .bl a, .int b => (if a then 1 else 0) == b
  | .int a, .bl b => a == (if b then 1 else 0)
  | .int a, .int b => a == b
  | .str a, .str b => a == b
  | _, _ => false
theorem eqAt_V {A : Around} {s : Shared} {y x : V} {u v : Value} (ry : RelV y u) (rx : RelV x v) (fy : flatV y = true) (fx : flatV x = true) : SeqAt.EqAt A s u v (eqV y x) := by
  cases y with
  | non =>
    cases ry
    cases x with
    | non => cases rx; exact SeqAt.EqAt.same _
    | bl b => cases rx; exact SeqAt.EqAt.none_bool b
    | int b => obtain ⟨t, rfl⟩ := rx; exact SeqAt.EqAt.none_int b t
    | str b => obtain ⟨t, rfl⟩ := rx; exact SeqAt.EqAt.none_str b t
    | _ => exact absurd (show false = true from fx) Bool.false_ne_true
  | bl a =>
    cases ry
    cases x with
    | non => cases rx; exact SeqAt.EqAt.bool_none a
    | bl b => cases rx; exact SeqAt.EqAt.bool_bool a b
    | int b => obtain ⟨t, rfl⟩ := rx; exact SeqAt.EqAt.bool_int a b t
    | str b => obtain ⟨t, rfl⟩ := rx; exact SeqAt.EqAt.bool_str a b t
    | _ => exact absurd (show false = true from fx) Bool.false_ne_true
  | int a =>
    obtain ⟨t', rfl⟩ := ry
    cases x with
    | non => cases rx; exact SeqAt.EqAt.int_none a t'
    | bl b => cases rx; exact SeqAt.EqAt.int_bool a t' b
    | int b => obtain ⟨t, rfl⟩ := rx; exact SeqAt.EqAt.int_int a t' b t
    | str b => obtain ⟨t, rfl⟩ := rx; exact SeqAt.EqAt.int_str a t' b t
    | _ => exact absurd (show false = true from fx) Bool.false_ne_true
  | str a =>
    obtain ⟨t', rfl⟩ := ry
    cases x with
    | non => cases rx; exact SeqAt.EqAt.str_none a t'
    | bl b => cases rx; exact SeqAt.EqAt.str_bool a t' b
    | int b => obtain ⟨t, rfl⟩ := rx; exact SeqAt.EqAt.str_int a t' b t
    | str b => obtain ⟨t, rfl⟩ := rx; exact SeqAt.EqAt.str_str a t' b t
    | _ => exact absurd (show false = true from fx) Bool.false_ne_true
  | _ => exact absurd (show false = true from fy) Bool.false_ne_true
def eqU (x : V) (u : Value) : Bool := match u with
  | .none => eqV .non x
  | .bool b => eqV (.bl b) x
  | .int i _ => eqV (.int i) x
  | .str z _ => eqV (.str z) x
  | _ => false
theorem eqU_of {x y : V} {u : Value} (r : RelV y u) (f : flatV y = true) : eqU x u = eqV y x := by
  cases y with
  | non => cases r; rfl
  | bl b => cases r; rfl
  | int i => obtain ⟨t, rfl⟩ := r; rfl
  | str z => obtain ⟨t, rfl⟩ := r; rfl
  | _ => exact absurd (show false = true from f) Bool.false_ne_true
theorem any_eqU {x : V} : ∀ {xs : List V} {us : List Value}, Vals xs us → xs.all flatV = true → us.any (eqU x) = xs.any fun y => eqV y x
  | _, _, .nil, _ => rfl
  | y :: xs, u :: us, .cons r t, f => by
    rw [List.all_cons, Bool.and_eq_true] at f
    rw [List.any_cons, List.any_cons, eqU_of r f.1, any_eqU t f.2]
theorem mem_eqAt {A : Around} {s : Shared} {x : V} {v : Value} (rx : RelV x v) (fx : flatV x = true) : ∀ {xs : List V} {us : List Value}, Vals xs us → xs.all flatV = true → ∀ u ∈ us, SeqAt.EqAt A s u v (eqU x u)
  | _, _, .nil, _ => fun u hu => by cases hu
  | y :: xs, u :: us, .cons r t, f => fun u' hu => by
    rw [List.all_cons, Bool.and_eq_true] at f
    rcases List.mem_cons.mp hu with rfl | hu
    · rw [eqU_of r f.1]; exact eqAt_V r rx f.1 fx
    · exact mem_eqAt rx fx t f.2 u' hu
def inV (x : V) (xs : List V) : Bool := xs.any fun y => eqV y x
def rIn (K : PySem.W.Frag) (neg : Bool) : R2 := fun x y H Q => ∃ p xs, y = .ref p ∧ (SqL K H p xs ∨ SqT K H p xs) ∧ flatV x = true ∧ xs.all flatV = true ∧ Q (.bl (if neg then !inV x xs else inV x xs)) H
theorem op_in_seq : OpR X (compareOp .In) (rIn X.K false) := by
  intro pins s σ H x y v u Q I rx ry h
  obtain ⟨p, xs, rfl, hq, fx, fs, q⟩ := h
  cases ry
  rcases hq with hq | hq
  · obtain ⟨its, r, pl, hz⟩ := I.list hq
    refine SeqAt.in_listAt (eqU x) pl.isList (fun w hw => mem_eqAt rx fx r fs w (by simpa using hw)) ⟨.bl _, H, I, rfl, ?_⟩
    rw [show its.toArray.any (eqU x) = its.any (eqU x) by simp, any_eqU r fs]
    exact q
  · obtain ⟨its, r, pl, hz⟩ := I.tuple hq
    refine SeqAt.in_tupleAt (eqU x) pl (fun w hw => mem_eqAt rx fx r fs w (by simpa using hw)) ⟨.bl _, H, I, rfl, ?_⟩
    rw [show its.toArray.any (eqU x) = its.any (eqU x) by simp, any_eqU r fs]
    exact q
theorem op_notIn_seq : OpR X (compareOp .NotIn) (rIn X.K true) := by
  intro pins s σ H x y v u Q I rx ry h
  obtain ⟨p, xs, rfl, hq, fx, fs, q⟩ := h
  cases ry
  rcases hq with hq | hq
  · obtain ⟨its, r, pl, hz⟩ := I.list hq
    refine SeqAt.notIn_listAt (eqU x) pl.isList (fun w hw => mem_eqAt rx fx r fs w (by simpa using hw)) ⟨.bl _, H, I, rfl, ?_⟩
    rw [show its.toArray.any (eqU x) = its.any (eqU x) by simp, any_eqU r fs]
    exact q
  · obtain ⟨its, r, pl, hz⟩ := I.tuple hq
    refine SeqAt.notIn_tupleAt (eqU x) pl (fun w hw => mem_eqAt rx fx r fs w (by simpa using hw)) ⟨.bl _, H, I, rfl, ?_⟩
    rw [show its.toArray.any (eqU x) = its.any (eqU x) by simp, any_eqU r fs]
    exact q
theorem call_len_seq : CallR X (.builtin "len") (fun xs H Q => ∃ p ys, xs = [.ref p] ∧ (SqL X.K H p ys ∨ SqT X.K H p ys) ∧ Q (.int ys.length) H) := by
  intro pins s σ H xs us Q I r h
  obtain ⟨p, ys, rfl, hq, q⟩ := h
  obtain ⟨u, rfl, rx⟩ := vals1 r
  cases rx
  have hn := line63
  rcases hq with hq | hq
  · obtain ⟨its, r', pl, hz⟩ := I.list hq
    have hlen := r'.length
    exact Calls.call_len_list pl.isList (by simp only [List.size_toArray] <;> omega) ⟨.int ys.length, H, I.tok _, ⟨s.toks + 1, by rw [List.size_toArray, hlen]⟩, q⟩
  · obtain ⟨its, r', pl, hz⟩ := I.tuple hq
    have hlen := r'.length
    exact len_tuple pl (by simp only [List.size_toArray] <;> omega) ⟨.int ys.length, H, I.tok _, ⟨s.toks + 1, by rw [List.size_toArray, hlen]⟩, q⟩
theorem call_len_str : CallR X (.builtin "len") (fun xs H Q => ∃ z, xs = [.str z] ∧ z.length ≤ sizeLine ∧ Q (.int z.length) H) := by
  intro pins s σ H xs us Q I r h
  obtain ⟨z, rfl, hz, q⟩ := h
  obtain ⟨u, rfl, t, rfl⟩ := vals1 r
  have hn := line63
  exact len_str (by omega) ⟨.int z.length, H, I.tok _, ⟨_, rfl⟩, q⟩
theorem CallR.or {f : Value} {r r' : List V → Hp → VK → Prop} (h : CallR X f r) (h' : CallR X f r') : CallR X f (fun xs H Q => r xs H Q ∨ r' xs H Q) := by
  intro pins s σ H xs us Q I rs q
  rcases q with q | q
  · exact h pins s σ H xs us Q I rs q
  · exact h' pins s σ H xs us Q I rs q
theorem call_tuple_of : CallR X (.type "tuple") (fun xs H Q => ∃ p ys, xs = [.ref p] ∧ ((SqL X.K H p ys ∧ ∀ l, H l = none → Q (.ref l) (upd H l (.tup ys))) ∨ (SqT X.K H p ys ∧ Q (.ref p) H))) := by
  intro pins s σ H xs us Q I r h
  obtain ⟨p, ys, rfl, h⟩ := h
  obtain ⟨u, rfl, rx⟩ := vals1 r
  cases rx
  rcases h with ⟨hq, q⟩ | ⟨hq, q⟩
  · obtain ⟨its, r', pl, hz⟩ := I.list hq
    have hlen := r'.length
    refine call_tuple_list pl.isList (fun h' kp => ?_) (by simp only [List.size_toArray] <;> omega)
    have I1 : Inv X pins σ H { s with heap := h' } := I.kept (t' := s.toks) kp
    have I2 : Inv X pins σ (upd H h'.objs.size (.tup ys)) { s with heap := h'.push { cls := .type "tuple", data := .seq its.toArray } } :=
      I1.laid (t' := s.toks) (fun b o e => Heap.get?_push_of_some _ e) (Nat.le_refl _) (show ObjOk X.prog X.w _ _ _ (.tup ys) from ⟨⟨hz, NoD.new⟩, its, r', IsTup.new _ _⟩)
    exact ⟨.ref h'.objs.size, _, I2, rfl, q _ (I1.hok.fresh (Nat.le_refl _))⟩
  · obtain ⟨its, r', pl, hz⟩ := I.tuple hq
    exact call_tuple_same pl ⟨.ref p, H, I, rfl, q⟩
def tyV (K : PySem.W.Frag) (T : String) (x : V) (H : Hp) : Prop := match x with
  | .str _ => T = "str"
  | .int _ => T = "int"
  | .ref p => (T = "list" ∧ ∃ xs, SqL K H p xs) ∨ (T = "tuple" ∧ ∃ o, K.lookup p = some o ∧ o.cls = .type "tuple" ∧ o.dict = none) ∨
      (T = "dict" ∧ ((∃ kvs, H p = some (.dK kvs)) ∨ ∃ kvs, H p = some (.dT kvs))) ∨ (T = "set" ∧ ∃ S n, H p = some (.set S n))
  | _ => False
theorem tyV_is {pins : List (Addr × Obj)} {σ : St} {H : Hp} {s : Shared} {T : String} {x : V} {v : Value} (I : Inv X pins σ H s) (r : RelV x v) (ty : tyV X.K T x H) :
    s.TypeIs v T ∧ ∀ a, v = .ref a → ∃ ob, s.heap.get? a = some ob ∧ ob.dict = none := by
  cases x with
  | str z =>
    obtain ⟨t, rfl⟩ := r
    cases (show T = "str" from ty)
    exact ⟨typeIs_str s z t, fun _ e => nomatch e⟩
  | int i =>
    obtain ⟨t, rfl⟩ := r
    cases (show T = "int" from ty)
    exact ⟨typeIs_int s i t, fun _ e => nomatch e⟩
  | ref p =>
    cases r
    rcases ty with ⟨rfl, xs, hq⟩ | ⟨rfl, o, hk, hc, hd⟩ | ⟨rfl, hk⟩ | ⟨rfl, S, n, hk⟩
    · obtain ⟨its, _, pl, _⟩ := I.list hq
      refine ⟨pl.isList.typeIs, fun a e => ?_⟩
      cases e
      obtain ⟨o, n, e, c, hd, _⟩ := pl
      exact ⟨o, e, hd⟩
    · refine ⟨⟨o, I.kIn p o hk, hc⟩, fun a e => ?_⟩
      cases e
      exact ⟨o, I.kIn _ o hk, hd⟩
    · have z : ∃ o, s.heap.get? p = some o ∧ o.ExactDict := by
        rcases hk with ⟨kvs, hk⟩ | ⟨kvs, hk⟩
        · obtain ⟨_, _, _, _, o, _, _, e, ex, _⟩ := I.hok p _ hk
          exact ⟨o, e, ex⟩
        · obtain ⟨_, _, _, _, o, _, _, e, ex, _⟩ := I.hok p _ hk
          exact ⟨o, e, ex⟩
      obtain ⟨o, e, ex⟩ := z
      refine ⟨⟨o, e, ex.1⟩, fun a e2 => ?_⟩
      cases e2
      exact ⟨o, e, ex.2.1⟩
    · obtain ⟨o, _, _, _, e, ex, _⟩ := I.hok p _ hk
      refine ⟨⟨o, e, ex.1⟩, fun a e2 => ?_⟩
      cases e2
      exact ⟨o, e, ex.2.1⟩
  | _ => exact False.elim ty
def tBM0 (K : PySem.W.Frag) (T : String) (r : V → List V → Hp → VK → Prop) (to : TE) : TE := fun σ H Q => to σ H fun x H1 => tyV K T x H1 ∧ r x [] H1 Q
def tBM (K : PySem.W.Frag) (T : String) (r : V → List V → Hp → VK → Prop) (to : TE) (t : TA) : TE := fun σ H Q => to σ H fun x H1 => tyV K T x H1 ∧ t σ H1 fun xs H2 => r x xs H2 Q
variable {o e : Expr} {es : List Expr} {to : TE} {t : TA} {name : Str} {apos cpos : Pos} {T id : String} {r : V → List V → Hp → VK → Prop}
theorem pe_bm0 (pa : PlainAttrs T) (slot : Slot T name id) (hty : typeOf (.builtin id) = pure (.type "method_descriptor")) (hm : MtR X id r) (ho : PE X o to)
    (hbase : attributeBase o name X.env (eval o X.env) = eval o X.env := by rfl) (hline : (apos.endLine == cpos.line) = true := by rfl) : PE X (.Call (.Attribute o name apos) [] [] cpos) (tBM0 X.K T r to) := by
  intro pins s σ H Q I h
  refine wpAny_Call_method0_late hbase hline (thn (ho pins s σ H _ I h) fun v s1 ⟨x, H1, I1, r1, ty, q1⟩ => ?_)
  obtain ⟨h1, h2⟩ := tyV_is I1 r1 ty
  exact ⟨T, id, pa, slot, hty, h1, h2, Calls.callWith_builtin rfl (PySem.evalArgs_none (hm pins s1 σ H1 x [] v [] Q I1 r1 .nil q1))⟩
theorem pe_bm (pa : PlainAttrs T) (slot : Slot T name id) (hty : typeOf (.builtin id) = pure (.type "method_descriptor")) (hm : MtR X id r) (ho : PE X o to) (ha : PA X (e :: es) t)
    (hbase : attributeBase o name X.env (eval o X.env) = eval o X.env := by rfl)
    (hfew : ((backTo cpos (starEach (e :: es) X.env)).all (fun x => !x.1) && (backToKw cpos (keywordEach [] X.env)).all (fun x => x.1.isSome)
      && decide ((e :: es).length + ([] : List Keyword).length + (if ([] : List Keyword).isEmpty then 0 else 1) < 30)) = true := by rfl)
    (hline : (apos.endLine == cpos.line) = true := by rfl) (hs : starEach (e :: es) X.env = (false, eval e X.env) :: starEach es X.env := by rfl) (hplain : (backTo cpos (starEach es X.env)).any (·.1) = false := by rfl) :
    PE X (.Call (.Attribute o name apos) (e :: es) [] cpos) (tBM X.K T r to t) := by
  intro pins s σ H Q I h
  refine wpAny_Call_method_late hbase hfew hline rfl (thn (ho pins s σ H _ I h) fun v s1 ⟨x, H1, I1, r1, ty, q1⟩ => ?_)
  obtain ⟨h1, h2⟩ := tyV_is I1 r1 ty
  refine ⟨T, id, pa, slot, hty, h1, h2, ?_⟩
  have hA := ha cpos pins s1 σ H1 _ I1 q1
  rw [hs] at hA ⊢
  refine Calls.callWith_builtin (by show (false || (backTo cpos (starEach es X.env)).any (·.1)) = false; rw [hplain] <;> rfl) (Calls.evalArgs_plain ?_)
  exact thn hA fun us s2 ⟨vs, H2, I2, r2, q2⟩ => hm pins s2 σ H2 x vs v us Q I2 r1 r2 q2
/- xs.append(e), list.index on a module's tuple .. are MtR facts of 06m -/
end
end L2
namespace L2
open PySem PySem.Spec PyProof.Rows
def MtM (X : Cx) (id : String) (r : V → List V → Hp → VK → Prop) : Prop :=
  ∀ (pins : List (Addr × Obj)) (s : Shared) (σ : St) (H : Hp) (x : V) (xs : List V) (v : Value) (us : List Value) (Q : VK), Inv X pins σ H s → RelV x v → Vals xs us → r x xs H Q →
    wpAny (model X.prog X.w) X.A (call (.builtin id) (v :: us)) (EP X pins σ Q) X.xe s
theorem Vals.one : ∀ {x : V} {us : List Value}, Vals [x] us → ∃ u, us = [u] ∧ RelV x u
  | _, _, .cons r .nil => ⟨_, rfl, r⟩
theorem Vals.zero : ∀ {us : List Value}, Vals [] us → us = []
  | _, .nil => rfl
theorem Vals.reverse {xs : List V} {us : List Value} (h : Vals xs us) : Vals xs.reverse us.reverse := by
  induction h with
  | nil => exact .nil
  | cons r t ih => rw [List.reverse_cons, List.reverse_cons]; exact Vals.append ih (.cons r .nil)
section
variable {X : Cx} {pins : List (Addr × Obj)} {σ : St} {H : Hp} {s : Shared} {l b : Addr} {xs ys zs : List V}
theorem Inv.lset {its its' : List Value} {n : Nat} {f : Array Value → Array Value} {t' : Nat} (I : Inv X pins σ H s) (hH : H l = some (.lst xs))
    (e : s.heap.get? l = some { cls := .type "list", data := .seq its.toArray n }) (hf : f its.toArray = its'.toArray) (hv : Vals ys its') (hz : ys.length ≤ sizeLine) :
    Inv X pins σ (upd H l (.lst ys)) { s with heap := s.heap.update l (Obj.mapSeq f), toks := t' } := by
  have q := PySem.IsL.update e f
  rw [hf] at q
  refine I.write (x := l) (e := l) (by rw [hH]; exact trivial) (.inl rfl) (fun b' u hb hu => (Heap.get?_update_other s.heap (Obj.mapSeq f) (Ne.symm hb)).trans hu) ⟨_, q⟩ ?_
  exact ⟨hz, its', _, hv, q⟩
theorem Inv.lnew {its : List Value} {t' : Nat} (I : Inv X pins σ H s) (hv : Vals ys its) (hz : ys.length ≤ sizeLine) :
    Inv X pins σ (upd H s.heap.objs.size (.lst ys)) { s with heap := s.heap.push { cls := .type "list", data := .seq its.toArray }, toks := t' } :=
  I.laid (fun _ _ q => Heap.get?_push_of_some _ q) (Nat.le_refl _) ⟨hz, its, 0, hv, Heap.get?_push_size _ rfl⟩
theorem Inv.fresh (I : Inv X pins σ H s) : H s.heap.objs.size = none := I.hok.fresh (Nat.le_refl _)
theorem Inv.lstM (I : Inv X pins σ H s) (hH : H l = some (.lst xs)) : xs.length ≤ sizeLine ∧ ∃ (its : List Value) (n : Nat), Vals xs its ∧ xs.length = its.length ∧ s.heap.get? l = some { cls := .type "list", data := .seq its.toArray n } := by
  obtain ⟨z, its, n, r, e⟩ := I.hok l _ hH
  exact ⟨z, its, n, r, r.length, e⟩
end
section
variable {X : Cx}
def rAppend : V → List V → Hp → VK → Prop := fun x vs H Q => ∃ l xs y, x = .ref l ∧ vs = [y] ∧ H l = some (.lst xs) ∧ xs.length < sizeLine ∧ Q .non (upd H l (.lst (xs ++ [y])))
theorem mt_append : MtM X "list.append" rAppend := by
  intro pins s σ H x vs v us Q I rx rv h
  obtain ⟨l, xs, y, rfl, rfl, hH, hz, q⟩ := h
  cases rx
  obtain ⟨u, rfl, ru⟩ := rv.one
  obtain ⟨z, its, n, r, hl, e⟩ := I.lstM hH
  refine call_meets F.slot_list_append ⟨_, e, rfl⟩ F.entry_list_append (F.args_list_append_2 _ _) (PySem.list_append l its.toArray n u (by rw [List.size_toArray]; omega)) ⟨e, ?_⟩
  refine ⟨.non, _, I.lset (its' := its ++ [u]) hH e (by simp) (r.append (.cons ru .nil)) ?_, rfl, q⟩
  rw [List.length_append, List.length_singleton]
  omega
def rClear : V → List V → Hp → VK → Prop := fun x vs H Q => ∃ l xs, x = .ref l ∧ vs = [] ∧ H l = some (.lst xs) ∧ Q .non (upd H l (.lst []))
theorem mt_clear : MtM X "list.clear" rClear := by
  intro pins s σ H x vs v us Q I rx rv h
  obtain ⟨l, xs, rfl, rfl, hH, q⟩ := h
  cases rx
  have hus := rv.zero
  subst hus
  obtain ⟨z, its, n, r, hl, e⟩ := I.lstM hH
  refine call_meets F.slot_list_clear ⟨_, e, rfl⟩ F.entry_list_clear (F.args_list_clear_1 _) (AutoSeq1.list_clear_list_0 l its.toArray n (by rw [List.size_toArray]; omega)) ⟨e, ?_⟩
  exact ⟨.non, _, I.lset (its' := []) (ys := []) hH e rfl .nil (Nat.zero_le _), rfl, q⟩
end
end L2
namespace Att
open PySem PySem.W PySem.Calls PyProof.Rows
theorem ints_of_wellAll {P : Params} {h : Heap} : ∀ (ns : List Int) (vs : List Value), WellAll P h vs (ns.map WData.int) → IntsAre vs ns := by
  intro ns
  induction ns with
  | nil =>
    intro vs w
    rw [List.map_nil] at w
    cases w
    exact .nil
  | cons n ns ih =>
    intro vs w
    rw [List.map_cons] at w
    cases w with
    | cons a b =>
      cases a
      exact .cons _ _ (ih _ b)
theorem script_of {l : OpenLaw} {n : Nat} (hn : l.most = some n) {P : Params} {h : Heap} {args : List WData} {vals : List Value}
    (hpre : l.row.toRowW.claim.pre args = true) (hwl : WellAll P h vals args) :
    ∃ a vs ns, vals = [Value.ref a] ∧ args = [WData.list (ns.map WData.int)] ∧ h.get? a = some { cls := .type "list", data := .seq vs.toArray } ∧ IntsAre vs ns ∧ ns.length ≤ n := by
  have hsh : WShape.hasAll [] args [.list .int] = true := (pre_splitW hpre).1
  have hc : l.pre.holds [] { args := args } = true := (pre_splitW hpre).2
  obtain ⟨d, r, rfl, h1, h2⟩ := hasAllW_cons hsh
  obtain rfl := hasAllW_nil h2
  obtain ⟨xs, rfl, h3⟩ := hasW_list h1
  obtain ⟨ns, rfl⟩ := items_int h3
  have hlen : ns.length ≤ n := by
    unfold OpenLaw.pre at hc
    have h4 : (WTm.not (.lt (.lit (.int (n : Int))) (.len (.arg 0)))).holds [] { args := [.list (ns.map .int)] } = true := by
      have h4 := (holds_andW hc).1
      rw [hn] at h4
      exact h4
    have h5 := condW_of h4 (w_not (w_lt w_lit (w_len_list (w_arg rfl))))
    rw [List.length_map] at h5
    refine Nat.le_of_not_lt fun q => ?_
    have q' : (n : Int) < ((ns.length : Nat) : Int) := by omega
    first
      | (rw [decide_eq_true q'] at h5; exact absurd h5 (by decide))
      | (simp at h5; omega)
  cases hwl with
  | cons w1 w2 =>
    cases w2
    cases w1 with
    | list ho hall => exact ⟨_, _, ns, rfl, rfl, ho, ints_of_wellAll ns _ hall, hlen⟩
theorem post_true (l : OpenLaw) (args : List WData) : l.row.toRowW.claim.post args (.bool true) args = true :=
  postW_of (r := l.row.toRowW) (X := (true == true))
    (show WShape.has [] (.bool true) .bool = true by first | rfl | decide | simp [WShape.has, WShape.arms, WShape.armsAll])
    (show (WTm.eq .res (.lit (.bool true))).value [] { args := args, res := some (.bool true), after := args } = some (.bool (true == true)) from w_eq_bool (w_res rfl) w_lit) rfl
theorem attach_call {l : OpenLaw} {n : Nat} {q : Program} {loose : List Str} {XP : (Str → Option Value) → Heap → Prop} {YP : World → Heap → Prop} {d : DefRec}
    (hn : l.most = some n) (hdf : d.params.defaults = [])
    (call : ∀ (w : World) (s₀ s₁ : Shared) (mg mb : Str → Option Value) (fa : Addr) (o : Obj) (pm cd doc : Value) (a : Addr) (vs : List Value) (ns : List Int),
      Ground q loose [] XP w s₀ mg mb s₁.heap → YP w s₁.heap →
      s₁.heap.get? fa = some o → o.data = .func (docDef d.name d.params d.body d.scope pm cd doc) → s₁.heap.CodeRec cd d.name → mg d.name = some (.ref fa) →
      s₁.heap.get? a = some { cls := .type "list", data := .seq vs.toArray } → IntsAre vs ns → ns.length ≤ n → s₁.gens = #[] →
      codeAny (model l.prog w) callerA (.call (.ref fa) ⟨[.ref a], []⟩) (fun r s' => r = .ok (.ret (.bool true)) ∧ OldK s₁.heap s'.heap ∧ s'.os = s₁.os ∧ AllBare s'.gens) s₁) :
    WalkO q loose XP YP l.row.toRowW d [] (fun f vs => PySem.call f vs) := by
  intro w s₀ s₁ mg mb G Y fa o pm cd doc dV kV ho hd hcd hD hmg hg args vals as hpre hlay hrd hwl hlo
  obtain rfl : dV = .none := Dflts.none hD hdf
  obtain rfl : kV = .none := Dflts.noKw hD
  obtain ⟨a, vs, ns, rfl, rfl, hobj, hints, hlen⟩ := script_of hn hpre hwl
  refine enter_call (codeAny_mono (call w s₀ s₁ mg mb fa o pm cd doc a vs ns G Y ho (fd_plain hd) hcd hmg hobj hints hlen hg) fun r s' hq => ?_)
  obtain ⟨rfl, h2, h3, h4⟩ := hq
  exact ⟨.inl ⟨.bool true, .bool true, [], rfl, fun _ => rfl, .bool true, post_true l _, fun _ => ⟨List.Pairwise.nil, fun _ hm => (nomatch hm)⟩⟩, h2, h3, h4⟩
end Att
namespace L2
open PySem PySem.Spec PyProof.Rows
theorem vals_ints : ∀ {vs : List Value} {ns : List Int}, IntsAre vs ns → Vals (ns.map V.int) vs
  | _, _, .nil => .nil
  | _, _, .cons n t h => .cons ⟨t, rfl⟩ (vals_ints h)
def Only (H : Hp) : Prop := ∀ b, H b = none ∨ ∃ o xs, H b = some (.frz o (.lst xs))
end L2
/- THE LAST THEOREM (shape; LID, My.* are yours):
   My.Adr: a structure of the addresses that your layer names (classes, functions); My.Txt K t: a structure (Prop) of the equations over K;
   My.txt_mk : {K} {implicit addresses ..} (e1 : nsIn K mainGlobals "law" = some (some (.ref f))) (e2 : K.lookup f = some ⟨oc, od, .func (fnOf "law" "law" params body scope dV kV doc pm an cdv ct), sl⟩) (e3 : codeIn K cdv "law" = true) .. : ∃ t, My.Txt K t
(the tactic k_is has no namespace: write k_is) -/
namespace L2
open PySem PySem.Spec PyProof.Rows
def defArgs (s : Stmt) : Arguments := match s with
  | .FunctionDef _ a _ _ _ _ _ _ _ _ => a
  | _ => { posonlyargs := [], args := [], vararg := none, kwonlyargs := [], kw_defaults := [], kwarg := none, defaults := [] }
def defBody (s : Stmt) : List Stmt := match s with
  | .FunctionDef _ _ b _ _ _ _ _ _ _ => b
  | _ => []
def defScope (s : Stmt) : Scope := match s with
  | .FunctionDef _ _ _ _ _ _ sc _ _ _ => sc
  | _ => { kind := .function, names := [], isGenerator := false, isCoroutine := false }
abbrev CX0 : CXT := fun _ _ _ _ _ _ => False
abbrev E0 : XK := fun _ _ _ => False
theorem pass0 {X : Cx} : Passes CX0 X E0 := fun _ _ _ _ _ _ _ h => h.elim
structure Fun (K : PySem.W.Frag) (x qual : Str) (st : Stmt) (f : Addr) (fd : FuncData) : Prop where
  ex : ∃ (oc : Value) (od : Option Addr) (kV doc pm : Value) (an : Option Addr) (cdv ct : Value) (osl : Array (Option Value)),
    fd = PySem.W.fnOf x qual (defArgs st) (defBody st) (defScope st) .none kV doc pm an cdv ct ∧ K.lookup f = some ⟨oc, od, .func fd, osl⟩ ∧ PySem.W.codeIn K cdv qual = true
  kp : PySem.W.keepIn K (.ref f) = true
section
variable {P : Program} {w : World} {K : PySem.W.Frag} {mg : Str → Option Value} {base : Heap}
theorem Fun.ok {x qual : Str} {st : Stmt} {f : Addr} {fd : FuncData} {N ps : List Str} {k : Nat} {sp : Sp} (F : Fun K x qual st f fd) (S : FnScope N ps (defScope st)) (len : ∀ vs H Q E, sp vs H Q E → vs.length = ps.length)
    (hbody : ∀ (cdv : Value) (A : Around) (outer : List Env) (s : Shared) (H : Hp) (vs : List V) (Q : VK) (E : XK), Room k (A.deeper (envOfC qual (defScope st) s.heap.objs.size f cdv)) → sp vs H Q E →
      ∃ t, PSs (cxOf CX0 P w K mg base N qual (defScope st) f cdv A outer s H E).nox (defBody st) t ∧ t { nx := fun _ H' => Q .non H', rt := Q } (start N vs) H) : FnOk P w K mg base CX0 (k + 1) f fd ps sp := by
  obtain ⟨oc, od, kV, doc, pm, an, cdv, ct, osl, rfl, lk, hcd⟩ := F.ex
  refine fn_of lk hcd S len fun A outer s H vs Q E hr hsp => ?_
  obtain ⟨t, h, q⟩ := hbody cdv A outer s H vs Q E hr hsp
  exact ⟨t, h.nox, q⟩
theorem Fun.binds {x qual : Str} {st : Stmt} {f : Addr} {fd : FuncData} {ps : List Str} (F : Fun K x qual st f fd)
    (h : ∀ (kV doc pm : Value) (an : Option Addr) (cdv ct : Value) (us : List Value), us.length = ps.length → bindArgs (PySem.W.fnOf x qual (defArgs st) (defBody st) (defScope st) .none kV doc pm an cdv ct) ⟨us, []⟩ = pure (ps.zip us)) : Binds K fd ps [] := by
  obtain ⟨oc, od, kV, doc, pm, an, cdv, ct, osl, rfl, lk, hcd⟩ := F.ex
  exact .all (h kV doc pm an cdv ct)
theorem fun_mk {x qual : Str} {st : Stmt} {f : Addr} {oc : Value} {od an : Option Addr} {osl : Array (Option Value)} {kV doc pm cdv ct : Value} (l : K.lookup f = some ⟨oc, od, .func (PySem.W.fnOf x qual (defArgs st) (defBody st) (defScope st) .none kV doc pm an cdv ct), osl⟩)
    (c : PySem.W.codeIn K cdv qual = true) (k : PySem.W.keepIn K (.ref f) = true) : Fun K x qual st f (PySem.W.fnOf x qual (defArgs st) (defBody st) (defScope st) .none kV doc pm an cdv ct) := ⟨⟨oc, od, kV, doc, pm, an, cdv, ct, osl, rfl, l, c⟩, k⟩
end
section
variable {X : Cx}
theorem pv (i : Nat) {x : Str} {pos : Pos} (hN : X.N[i]? = some x := by rfl) (hv : Vis X.env.scope x := by first | exact Or.inl rfl | exact Or.inr (Or.inl rfl) | exact Or.inr (Or.inr rfl)) (hd : (x == ("__debug__" : Str)) = false := by decide)
    (hcd : (x == ("__classdict__" : Str)) = false := by decide) : PE X (.Name x pos) (tVar i) := pe_var hN hv hd hcd
end
def Same (H H' : Hp) : Prop := ∀ b o, H b = some o → H' b = some o
theorem Same.refl (H : Hp) : Same H H := fun _ _ h => h
theorem Same.trans {H H1 H2 : Hp} (a : Same H H1) (b : Same H1 H2) : Same H H2 := fun c o h => b c o (a c o h)
theorem Same.free {H H' : Hp} (e : Same H H') {l : Addr} (h : H' l = Option.none) : H l = Option.none := by
  cases q : H l with
  | none => rfl
  | some o =>
    rw [e l o q] at h
    cases h
end L2
set_option Elab.async false
set_option linter.all false
set_option maxHeartbeats 1000000
set_option Elab.async false
set_option linter.all false
set_option maxHeartbeats 1000000
set_option Elab.async false
set_option linter.all false
set_option maxHeartbeats 4000000
set_option Elab.async false
set_option linter.all false
set_option maxHeartbeats 4000000
set_option Elab.async false
set_option linter.all false
set_option maxHeartbeats 4000000
set_option Elab.async false
set_option linter.all false
set_option maxHeartbeats 4000000
set_option Elab.async false
set_option linter.all false
set_option maxHeartbeats 4000000
set_option Elab.async false
set_option linter.all false
set_option maxHeartbeats 4000000
set_option Elab.async false
set_option linter.all false
set_option maxRecDepth 100000
set_option maxHeartbeats 4000000
namespace L2
open PySem PySem.Spec PyProof.Rows
def clOf (sc : Scope) (env : Env) : List (Str × Addr) := sc.names.foldl (fun cs p => if p.2 = .free then (p.1, (env.cells.lookup p.1).getD 0) :: cs else cs) []
theorem clos_go (env : Env) : ∀ (ns : List (Str × NameKind)) (acc : List (Str × Addr)), (∀ p ∈ ns, p.2 = .free → ∃ c, env.cells.lookup p.1 = some c) →
    (forIn ns acc (fun (x : Str × NameKind) (r : List (Str × Addr)) => match x with | (name, kind) => if (kind == .free) = true then (do let c ← cellOf env name; pure (ForInStep.yield ((name, c) :: r))) else pure (ForInStep.yield r)) : Sem _) =
      pure (ns.foldl (fun cs p => if p.2 = .free then (p.1, (env.cells.lookup p.1).getD 0) :: cs else cs) acc)
  | [], acc, _ => rfl
  | (n, k) :: ns, acc, h => by
    rw [List.forIn_cons]
    by_cases hk : k = .free
    · subst hk
      obtain ⟨c, hc⟩ := h (n, .free) (List.mem_cons_self ..) rfl
      have e1 : cellOf env n = pure c := by
        unfold cellOf
        rw [hc]
      dsimp only
      rw [if_pos (by rfl), e1, pure_bind, pure_bind, List.foldl_cons, if_pos rfl, hc]
      exact clos_go env ns _ fun p hp => h p (List.mem_cons_of_mem _ hp)
    · dsimp only
      rw [if_neg (by simpa using hk), pure_bind, List.foldl_cons, if_neg hk]
      exact clos_go env ns _ fun p hp => h p (List.mem_cons_of_mem _ hp)
theorem clos_eq {sc : Scope} {env : Env} (h : ∀ p ∈ sc.names, p.2 = .free → ∃ c, env.cells.lookup p.1 = some c) : closureFor sc env = pure (clOf sc env) := by
  unfold closureFor clOf
  have := clos_go env sc.names [] h
  exact (congrArg (fun m : Sem (List (Str × Addr)) => m >>= fun r => pure r) this).trans rfl
theorem cl_spec (env : Env) : ∀ (ns : List (Str × NameKind)) (acc : List (Str × Addr)) (y : Str) (c : Addr), (ns.foldl (fun cs p => if p.2 = .free then (p.1, (env.cells.lookup p.1).getD 0) :: cs else cs) acc).lookup y = some c →
    acc.lookup y = some c ∨ ((y, NameKind.free) ∈ ns ∧ c = (env.cells.lookup y).getD 0)
  | [], acc, y, c, h => .inl h
  | (n, k) :: ns, acc, y, c, h => by
    rw [List.foldl_cons] at h
    rcases cl_spec env ns _ y c h with h1 | ⟨h1, h2⟩
    · by_cases hk : k = .free
      · rw [if_pos hk, List.lookup_cons] at h1
        by_cases hy : (y == n) = true
        · rw [hy] at h1
          have e : y = n := eq_of_beq hy
          subst e
          exact .inr ⟨by rw [hk]; exact List.mem_cons_self .., (Option.some.inj h1).symm⟩
        · rw [Bool.not_eq_true] at hy
          rw [hy] at h1
          exact .inl h1
      · rw [if_neg hk] at h1
        exact .inl h1
    · exact .inr ⟨List.mem_cons_of_mem _ h1, h2⟩
theorem cl_has (env : Env) : ∀ (ns : List (Str × NameKind)) (acc : List (Str × Addr)) (y : Str), ((y, NameKind.free) ∈ ns ∨ ∃ c, acc.lookup y = some c) → ∃ c, (ns.foldl (fun cs p => if p.2 = .free then (p.1, (env.cells.lookup p.1).getD 0) :: cs else cs) acc).lookup y = some c
  | [], acc, y, h => by
    rcases h with h | h
    · cases h
    · exact h
  | (n, k) :: ns, acc, y, h => by
    rw [List.foldl_cons]
    refine cl_has env ns _ y ?_
    rcases h with h | ⟨c, h⟩
    · rcases List.mem_cons.mp h with e | h
      · injection e with e1 e2
        subst e1 e2
        rw [if_pos rfl, List.lookup_cons]
        exact .inr ⟨_, by rw [beq_self_eq_true]⟩
      · exact .inl h
    · refine .inr ?_
      split
      · rw [List.lookup_cons]
        cases y == n with
        | true => exact ⟨_, rfl⟩
        | false => exact ⟨c, h⟩
      · exact ⟨c, h⟩
structure CompSc (osc : Scope) (N : List Str) (sc : Scope) (x : Str) (ys : List Str) : Prop where
  kind : sc.kind = .function
  xloc : sc.names.lookup x = some .local
  nocell : ∀ p ∈ sc.names, p.2 ≠ .cell
  locs : ∀ p ∈ sc.names, p.2 = .local → sc.names.lookup p.1 = some .local
  free : ∀ p ∈ sc.names, p.2 = .free → osc.names.lookup p.1 = some .cell ∨ osc.names.lookup p.1 = some .free
  nd : (x :: ys).Nodup
  len : ys.length = N.length
  pl : ∀ p ∈ ys.zip N, sc.names.lookup p.1 = some .free → p.1 = p.2
  nl : ∀ y ∈ ys, sc.names.lookup y ≠ some .local
def compOk (osc : Scope) (N : List Str) (sc : Scope) (x : Str) (ys : List Str) : Bool :=
  decide (sc.kind = .function) && decide (sc.names.lookup x = some .local) && decide (∀ p ∈ sc.names, p.2 ≠ .cell) && decide (∀ p ∈ sc.names, p.2 = .local → sc.names.lookup p.1 = some .local) &&
  decide (∀ p ∈ sc.names, p.2 = .free → osc.names.lookup p.1 = some .cell ∨ osc.names.lookup p.1 = some .free) && decide ((x :: ys).Nodup) && decide (ys.length = N.length) &&
  decide (∀ p ∈ ys.zip N, sc.names.lookup p.1 = some .free → p.1 = p.2) && decide (∀ y ∈ ys, sc.names.lookup y ≠ some .local)
theorem CompSc.of {osc : Scope} {N : List Str} {sc : Scope} {x : Str} {ys : List Str} (h : compOk osc N sc x ys = true) : CompSc osc N sc x ys := by
  unfold compOk at h
  simp only [Bool.and_eq_true, decide_eq_true_eq] at h
  obtain ⟨⟨⟨⟨⟨⟨⟨⟨h1, h2⟩, h3⟩, h4⟩, h5⟩, h6⟩, h7⟩, h8⟩, h9⟩ := h
  exact ⟨h1, h2, h3, h4, h5, h6, h7, h8, h9⟩
def Cx.blk (X : Cx) (sc : Scope) (x : Str) (ys : List Str) (ex : List Addr) (C : Addr) (s : Shared) (H : Hp) : Cx where
  prog := X.prog
  w := X.w
  K := X.K
  mg := X.mg
  base := X.base
  A := X.A
  N := x :: ys
  s₀ := s
  H₀ := H
  env := compEnvC sc (clOf sc X.env) C X.env
  outer := X.stack
  stack := X.stack
  ex := ex
  fn := fun _ => false
  calm := X.calm
  pn := []
  xe := fun _ _ => False
theorem lookup_relabel {env : Env} : ∀ {ns : List (Str × NameKind)} {y : Str} {k : NameKind}, (ns.map fun (n, k) => if (k == NameKind.free && env.scope.kind == .function && env.kindOf n == some .cell) then (n, NameKind.cell) else (n, k)).lookup y = some k →
    ns.lookup y = some k ∨ (ns.lookup y = some .free ∧ k = .cell)
  | [], y, k, h => by cases h
  | (n, j) :: ns, y, k, h => by
    rw [List.map_cons] at h
    dsimp only at h
    cases hy : y == n with
    | true =>
      by_cases hc : (j == NameKind.free && env.scope.kind == .function && env.kindOf n == some .cell) = true
      · rw [if_pos hc, List.lookup_cons, hy] at h
        have hj : j = .free := by
          simp only [Bool.and_eq_true] at hc
          exact eq_of_beq hc.1.1
        refine .inr ⟨?_, (Option.some.inj h).symm⟩
        rw [List.lookup_cons, hy, hj]
      · rw [if_neg hc, List.lookup_cons, hy] at h
        refine .inl ?_
        rw [List.lookup_cons, hy]
        exact h
    | false =>
      have h' : (ns.map fun (n, k) => if (k == NameKind.free && env.scope.kind == .function && env.kindOf n == some .cell) then (n, NameKind.cell) else (n, k)).lookup y = some k := by
        by_cases hc : (j == NameKind.free && env.scope.kind == .function && env.kindOf n == some .cell) = true
        · rw [if_pos hc, List.lookup_cons, hy] at h
          exact h
        · rw [if_neg hc, List.lookup_cons, hy] at h
          exact h
      rw [List.lookup_cons, hy]
      exact lookup_relabel h'
section
variable {X : Cx} {pins : List (Addr × Obj)} {σ : St} {H : Hp} {s : Shared} {sc : Scope} {x : Str} {ys : List Str}
theorem CompSc.cell (cs : CompSc X.env.scope X.N sc x ys) (I : Inv X pins σ H s) {y : Str} (h : (y, NameKind.free) ∈ sc.names) : ∃ c, X.env.cells.lookup y = some c := I.ok.has y (cs.free _ h rfl)
theorem CompSc.cl (cs : CompSc X.env.scope X.N sc x ys) (I : Inv X pins σ H s) {y : Str} {c : Addr} (h : (clOf sc X.env).lookup y = some c) : X.env.cells.lookup y = some c ∧ (y, NameKind.free) ∈ sc.names := by
  rcases cl_spec X.env sc.names [] y c h with h1 | ⟨h1, h2⟩
  · cases h1
  · obtain ⟨d, hd⟩ := cs.cell I h1
    rw [hd] at h2
    rw [h2]
    exact ⟨hd, h1⟩
theorem blk_ok (cs : CompSc X.env.scope X.N sc x ys) (I : Inv X pins σ H s) {fp : List Addr} (hf : ∀ b ∈ fp, FpOk X pins H b) (hlt : ∀ b ∈ fp, b < s.heap.objs.size) {C : Addr} (hC : s.heap.objs.size ≤ C) : (X.blk sc x ys fp C s H).Ok where
  mod := I.ok.mod
  kind := cs.kind
  glob := I.ok.glob
  blt := I.ok.blt
  above := hC
  inj := fun y z c h1 h2 => I.ok.inj y z c (cs.cl I h1).1 (cs.cl I h2).1
  has := fun y hy => by
    have hy' : (relabel sc X.env).names.lookup y = some .cell ∨ (relabel sc X.env).names.lookup y = some .free := hy
    have hf : (y, NameKind.free) ∈ sc.names := by
      rcases hy' with h | h
      · rcases lookup_relabel h with h1 | ⟨h1, _⟩
        · exact absurd rfl (cs.nocell _ (PySem.mem_of_lookup h1))
        · exact PySem.mem_of_lookup h1
      · rcases lookup_relabel h with h1 | ⟨h1, _⟩
        · exact PySem.mem_of_lookup h1
        · exact PySem.mem_of_lookup h1
    exact cl_has X.env sc.names [] y (.inl hf)
  cab := fun y c h => by cases h
  hd := I.ok.hd
  frames := I.ok.frames
  stk := .inl rfl
  exf := fun b hb => ⟨fun e => by
    have := hlt b hb
    rw [e] at this
    exact absurd (Nat.lt_of_lt_of_le this hC) (Nat.lt_irrefl _), fun y c h => (hf b hb).2.2.2.2.1 y c (cs.cl I h).1⟩
  bs := I.bs
  bsz := Nat.le_trans I.ok.bsz I.sz
  noex := fun b o e hb => by
    rcases (hf b hb).2.2.2.1 with h | h
    · exact I.ok.noex b o e h
    · exact absurd (Nat.lt_of_lt_of_le (Heap.lt_size e) (Nat.le_trans I.ok.bsz h)) (Nat.lt_irrefl _)
  exfs := fun b hb h => (List.mem_cons.mp (I.stkSub b h)).elim (hf b hb).2.1 (hf b hb).2.2.1
  funs := I.stack
  frf := I.stkFree
end
end L2
set_option Elab.async false
set_option linter.all false
set_option maxRecDepth 100000
set_option maxHeartbeats 4000000
namespace L2
open PySem PySem.Spec PyProof.Rows
def PIfs (X : Cx) (ifs : List Expr) (t : TT) : Prop :=
  ∀ (pins : List (Addr × Obj)) (s : Shared) (σ : St) (H : Hp) (Q : Bool → Hp → Prop), Inv X pins σ H s → t σ H Q →
    wpAny (model X.prog X.w) X.A (forIn ifs true fun c r => if r = true then do let ok ← isTrue c X.env (eval c X.env); pure (ForInStep.yield ok) else pure (ForInStep.yield r)) (TP X pins σ Q) X.xe s
theorem pifs_nil {X : Cx} : PIfs X [] (fun _ H Q => Q true H) := fun pins s σ H Q I h => wpAny_tests_nil ⟨H, I, h⟩
theorem pifs_one {X : Cx} {c : Expr} {t : TT} (h : PT X c t) : PIfs X [c] t := fun pins s σ H Q I q => wpAny_tests_one (h pins s σ H Q I q)
def tComp (wi : TI) (tt : TT) (te : TE) : TE := fun σ H Q => wi σ H fun J H1 => ∃ W : Nat → Nat → List V → Hp → Prop, (∃ m, W 0 m [] H1) ∧ ∀ i m acc H, W i m acc H →
  (J.stop i H ∧ ∀ p, H p = none → Q (.ref p) (upd H p (.lst acc))) ∨ (J.go i H ∧ acc.length < sizeLine ∧ ∀ y H', J.yld i H y H' → tt (some y :: σ) H' fun b H2 =>
    if b = true then te (some y :: σ) H2 fun z H3 => ∃ m', m' < m ∧ W (i + 1) m' (acc ++ [z]) H3 else ∃ m', m' < m ∧ W (i + 1) m' acc H2)
section
variable {X : Cx} {sc : Scope} {x : Str} {ys : List Str} {px : Pos} {elt iter : Expr} {ifs : List Expr} {pos : Pos} {wi : TI} {tt : TT} {te : TE}
def lobj (its : List Value) (n : Nat) : Obj := { cls := .type "list", data := .seq its.toArray n }
theorem comp_run {M : Value → Env → Result → Shared → Prop} {pins : List (Addr × Obj)} {σ : St} {H : Hp} {s : Shared} {E : Value → Shared → Prop} (hc : X.calm = true) (cs : CompSc X.env.scope X.N sc x ys) (I : Inv X pins σ H s)
    (ht : ∀ ex C s H, PIfs (X.blk sc x ys ex C s H) ifs tt) (he : ∀ ex C s H, PE (X.blk sc x ys ex C s H) elt te)
    {it : Addr} {fp : List Addr} {tn : Nat → Heap → Prop} {J : It} (T : Turn X.prog X.w X.K (.Name x px) J fp it tn) (st : tn 0 s.heap) (hf : ∀ b ∈ fp, FpOk X pins H b)
    {W : Nat → Nat → List V → Hp → Prop} {m0 : Nat} (w0 : W 0 m0 [] H) {F : List V → Hp → Prop}
    (turn : ∀ i m acc H, W i m acc H → (J.stop i H ∧ F acc H) ∨ (J.go i H ∧ acc.length < sizeLine ∧ ∀ y H', J.yld i H y H' → tt (some y :: σ) H' fun b H2 =>
      if b = true then te (some y :: σ) H2 fun z H3 => ∃ m', m' < m ∧ W (i + 1) m' (acc ++ [z]) H3 else ∃ m', m' < m ∧ W (i + 1) m' acc H2))
    (hM : ∀ (D C : Addr) (cenv : Env) (s' : Shared) (acc : List V) (H' : Hp) (its : List Value) (n : Nat), cenv.locals = C → D ≠ C → s.heap.objs.size ≤ D → s.heap.objs.size ≤ C → Inv (X.blk sc x ys fp C s H) [(D, lobj its n)] (none :: σ) H' s' → Vals acc its → acc.length ≤ sizeLine → F acc H' →
      M (.ref D) cenv (.ok .next) s') :
    wpAny (model X.prog X.w) X.A (newList []) (fun acc s₃ => wpAny (model X.prog X.w) X.A (newFunctionEnv sc X.env.globals (clOf sc X.env) [] X.env.qual none .none (some X.env)) (fun cenv s₄ =>
      codeAny (model X.prog X.w) X.A (.compStart (.ListComp elt [⟨.Name x px, iter, ifs, 0⟩] sc pos) 0 (.ref it) acc { cenv with scope := relabel sc X.env }) (M acc cenv) s₄) E s₃) E s := by
  have hlt : ∀ b ∈ fp, b < s.heap.objs.size := fun b hb => by
    obtain ⟨o, e, _⟩ := T.obj 0 _ st b hb
    exact Heap.lt_size e
  refine wpAny_newObj_type (wpAny_newFunctionEnv cs.nocell (by intro y hy; simp at hy) (fun h1 hns hsb => ?_) cs.kind)
  dsimp only at hns hsb ⊢
  generalize hH2 : s.heap.push { cls := .type "list", dict := none, data := .seq ([] : List Value).toArray } = h2 at hns hsb ⊢
  have hC : h2.objs.size = s.heap.objs.size + 1 := by rw [← hH2, Heap.size_push]
  have hDC : s.heap.objs.size ≠ h2.objs.size := by omega
  have old : ∀ b o, s.heap.get? b = some o → h1.get? b = some o := fun b o e => by
    have hb := Heap.lt_size e
    rw [hsb.2 b (by rw [hC]; exact Nat.ne_of_lt (Nat.lt_succ_of_lt hb))]
    exact Heap.get?_push_of_some _ (hH2 ▸ Heap.get?_push_of_some _ e)
  have hD : h1.get? s.heap.objs.size = some (lobj [] 0) := by
    rw [hsb.2 _ hDC]
    exact Heap.get?_push_of_some _ (hH2 ▸ Heap.get?_push_size _ rfl)
  generalize hCe : h2.objs.size = C at *
  have hCle : s.heap.objs.size ≤ C := by omega
  have hfresh : ∀ b, s.heap.objs.size ≤ b → H b = none := fun b hb => I.hok.fresh hb
  have nofs : ∀ b, s.heap.objs.size ≤ b → b ∉ frs X.stack := fun b hb z => by
    obtain ⟨_, o, ho, _⟩ := (I.stack).mem z
    exact absurd (Nat.lt_of_lt_of_le (Heap.lt_size ho) hb) (Nat.lt_irrefl _)
  have I0 : Inv (X.blk sc x ys fp C s H) [(s.heap.objs.size, lobj [] 0)] (none :: σ) H { s with heap := h1, toks := s.toks + ([] : List (Str × Value)).length } := by
    refine ⟨blk_ok cs I hf hlt hCle, rfl, I.bare, Un.kept old, ⟨_, hns, fun i y v e1 e2 e3 => ?_⟩, fun y c e => ?_, hfresh _ hCle, fun y c e => I.freeC y c (cs.cl I e).1, fun p hp => ?_, I.hok.kept old, ?_⟩
    · cases i with
      | zero => cases e2
      | succ i =>
        have e1' : ys[i]? = some y := e1
        have e2' : σ[i]? = some (some v) := e2
        have e3' : (relabel sc X.env).names.lookup y = some .local ∨ (relabel sc X.env).names.lookup y = some .cell ∨ (relabel sc X.env).names.lookup y = some .free := e3
        have hfr : sc.names.lookup y = some .free := by
          rcases e3' with h | h | h
          · rcases lookup_relabel h with h1 | ⟨_, h1⟩
            · exact absurd h1 (cs.nl y (List.mem_of_getElem? e1'))
            · cases h1
          · rcases lookup_relabel h with h1 | ⟨h1, _⟩
            · exact absurd rfl (cs.nocell _ (PySem.mem_of_lookup h1))
            · exact h1
          · rcases lookup_relabel h with h1 | ⟨h1, _⟩
            · exact h1
            · exact h1
        have hi : i < X.N.length := by
          rw [← cs.len]
          exact (List.getElem?_eq_some_iff.mp e1').1
        have hN : X.N[i]? = some y := by
          have hz : (ys.zip X.N)[i]? = some (y, X.N[i]) := by
            rw [List.getElem?_zip_eq_some]
            exact ⟨e1', List.getElem?_eq_getElem hi⟩
          have := cs.pl _ (List.mem_of_getElem? hz) hfr
          dsimp only at this
          rw [this]
          exact List.getElem?_eq_getElem hi
        have hmem : (y, NameKind.free) ∈ sc.names := PySem.mem_of_lookup hfr
        obtain ⟨m, hn, hl⟩ := I.loc
        obtain ⟨u, r, lk⟩ := hl i y v hN e2' (.inr (cs.free _ hmem rfl))
        refine ⟨u, r, .inr ⟨?_, ?_⟩⟩
        · rcases e3' with h | h
          · rcases lookup_relabel h with h1 | ⟨_, h1⟩
            · rw [hfr] at h1
              cases h1
            · cases h1
          · exact h
        · rcases lk with ⟨k, _⟩ | ⟨_, c, e, z⟩
          · rcases cs.free _ hmem rfl with h | h
            · have k' : X.env.scope.names.lookup y = some .local := k
              rw [h] at k'
              cases k'
            · have k' : X.env.scope.names.lookup y = some .local := k
              rw [h] at k'
              cases k'
          · obtain ⟨c', hc'⟩ := cl_has X.env sc.names [] y (.inl hmem)
            have : c' = c := by
              have := (cs.cl I (show (clOf sc X.env).lookup y = some c' from hc')).1
              rw [e] at this
              exact (Option.some.inj this).symm
            subst this
            obtain ⟨o, ho, hd⟩ := z
            exact ⟨c', hc', o, old _ _ ho, hd⟩
    · obtain ⟨v, o, ho, hd⟩ := I.cell y c (cs.cl I e).1
      exact ⟨v, o, old _ _ ho, hd⟩
    · obtain rfl : p = (s.heap.objs.size, lobj [] 0) := by simpa using (show p ∈ ([] : List (Addr × Obj)) ++ [(s.heap.objs.size, lobj [] 0)] from hp)
      exact ⟨hD, hfresh _ (Nat.le_refl _), hDC, nofs _ (Nat.le_refl _), fun v z => by cases z⟩
    · show (none :: σ).length = (x :: ys).length
      rw [List.length_cons, List.length_cons, I.len, cs.len]
  have fpD : s.heap.objs.size ∉ fp := fun z => Nat.lt_irrefl _ (hlt _ z)
  have fpo : ∀ {pins' : List (Addr × Obj)} {H' : Hp} {s' : Shared} {σ' : St}, Inv (X.blk sc x ys fp C s H) pins' σ' H' s' → (∀ b ∈ fp, H' b = none) → (∀ p ∈ pins', p.1 ∉ fp) → ∀ b ∈ fp, FpOk (X.blk sc x ys fp C s H) pins' H' b := fun {pins' H' s' σ'} I' hn hp b hb =>
    ⟨hn b hb, (I'.ok.exf b hb).1, I'.ok.exfs b hb, .inl hb, (I'.ok.exf b hb).2, fun p hp' z => by
      have hp'' : p ∈ pins' := by simpa using (show p ∈ ([] : List (Addr × Obj)) ++ pins' from hp')
      exact hp p hp'' (z ▸ hb)⟩
  have loop : ∀ s3 : Shared, s3 = { s with heap := h1, toks := s.toks + ([] : List (Str × Value)).length } → ∀ cenv : Env, cenv.locals = C →
      codeAny (model X.prog X.w) X.A (.compLoop (.ListComp elt [⟨.Name x px, iter, ifs, 0⟩] sc pos) 0 (.ref it) (.ref s.heap.objs.size) (compEnvC sc (clOf sc X.env) C X.env)) (M (.ref s.heap.objs.size) cenv) s3 := by
    rintro s3 rfl cenv hce
    refine codeAny_compLoop_tests (fun m s' => ∃ i acc H' its n, Inv (X.blk sc x ys fp C s H) [(s.heap.objs.size, lobj its n)] (none :: σ) H' s' ∧ Vals acc its ∧ acc.length ≤ sizeLine ∧ tn i s'.heap ∧ (∀ b ∈ fp, H' b = none) ∧ W i m acc H') ?_ m0
      ⟨0, [], H, [], 0, I0, .nil, Nat.zero_le _, T.keep 0 _ _ st fun b hb o e => old b o e, fun b hb => (hf b hb).1, w0⟩
    rintro m s' ⟨i, acc, H', its, n, I1, rv, hz, st1, fr1, w1⟩
    have noD : ∀ p ∈ [(s.heap.objs.size, lobj its n)], p.1 ∉ fp := fun p hp => by
      obtain rfl : p = (s.heap.objs.size, lobj its n) := by simpa using hp
      exact fpD
    rcases turn i m acc H' w1 with ⟨stop, fin⟩ | ⟨go, hz1, step⟩
    · refine wpAny_mono (T.done (X.blk sc x ys fp C s H) rfl rfl rfl hc i _ s' _ H' (fun _ _ => False) I1 (fpo I1 fr1 noD) st1 stop) (fun r s4 ⟨hr, I4⟩ => ?_) (fun _ _ z => z.elim)
      subst hr
      exact hM _ C cenv s4 acc H' its n hce hDC (Nat.le_refl _) hCle I4 rv hz fin
    · refine wpAny_mono (T.item (X.blk sc x ys fp C s H) rfl rfl rfl hc i _ s' _ H' (fun _ _ => False) I1 (fpo I1 fr1 noD) st1 go) (fun r s4 ⟨u, hr, h4⟩ => ?_) (fun _ _ z => z.elim)
      subst hr
      dsimp only
      have e0 : ∀ env : Env, (letOwnedTupleGo (.Name x px) (.ref it) u >>= fun _ => assign (.Name x px) env u) = assign (.Name x px) env u := fun env => by
        rw [show letOwnedTupleGo (.Name x px) (.ref it) u = pure () from rfl, pure_bind]
      rw [← e0]
      refine wpAny_bind (wpAny_mono h4 (fun _ s5 ⟨y, H5, I5, r5, y5, st5, fr5⟩ => ?_) (fun _ _ z => z.elim))
      have I5' := I5.pinned (fpo I5 fr5 noD) (T.obj _ _ st5)
      have xl : (X.blk sc x ys fp C s H).env.scope.names.lookup x = some .local := lookup_relabel_local cs.xloc
      refine wpAny_assign_Name (store_ok I5' cs.nd (i := 0) rfl (.inl xl) r5 (fun s6 I6 => ?_) (.inr xl))
      refine wpAny_mono (ht fp C s H _ s6 (some y :: σ) H5 _ I6 (step y H5 y5)) (fun b s7 ⟨H7, I7, q7⟩ => ?_) (fun _ _ z => z.elim)
      have keepT : ∀ {H' : Hp} {s' : Shared} {σ' : St} {pl : List (Addr × Obj)}, Inv (X.blk sc x ys fp C s H) (pl ++ pinsAt fp s5.heap) σ' H' s' → tn (i + 1) s'.heap ∧ ∀ b ∈ fp, H' b = none := fun {H' s' σ' pl} I' => by
        refine ⟨T.keep _ _ _ st5 fun b hb o e => (I'.pin (b, o) (List.mem_append_right _ (List.mem_append_right _ (mem_pinsAt hb e)))).1, fun b hb => ?_⟩
        obtain ⟨o, e, d⟩ := T.obj _ _ st5 b hb
        exact (I'.pin (b, o) (List.mem_append_right _ (List.mem_append_right _ (mem_pinsAt hb e)))).2.1
      have wk : ∀ {H' : Hp} {s' : Shared} {pl : List (Addr × Obj)}, Inv (X.blk sc x ys fp C s H) pl (some y :: σ) H' s' → Inv (X.blk sc x ys fp C s H) pl (none :: σ) H' s' := fun {H' s' pl} I' => I'.weak (by simp) fun j v e => by
        cases j with
        | zero => cases e
        | succ j => exact e
      cases b with
      | false =>
        rw [if_neg Bool.false_ne_true] at q7
        obtain ⟨m', hm, w7⟩ := q7
        obtain ⟨t7, f7⟩ := keepT I7
        exact ⟨m', hm, i + 1, acc, H7, its, n, wk I7.unpinned, rv, hz, t7, f7, w7⟩
      | true =>
        rw [if_pos rfl] at q7
        refine wpAny_mono (he fp C s H _ s7 (some y :: σ) H7 _ I7 q7) (fun u8 s8 ⟨z, H8, I8, r8, m', hm, w8⟩ => ?_) (fun _ _ z => z.elim)
        obtain ⟨t8, f8⟩ := keepT I8
        obtain ⟨p1, p2, p3, p4, p5⟩ := I8.pin (s.heap.objs.size, lobj its n) (List.mem_append_right _ (List.mem_append_left _ (List.mem_singleton.mpr rfl)))
        have hl := rv.length
        refine wpAny_list_append_plain (items := its.toArray) ⟨n, p1⟩ (fun h9 pl9 sb9 => ?_) (by rw [List.size_toArray]; omega)
        obtain ⟨n9, e9⟩ := pl9
        have e9' : h9.get? s.heap.objs.size = some (lobj (its ++ [u8]) n9) := by
          rw [e9]
          unfold lobj
          simp
        have Ia : Inv (X.blk sc x ys fp C s H) (pinsAt fp s5.heap) (none :: σ) H8 s8 := (wk I8).pins_of fun p hp => I8.pin p (List.mem_append_right _ (List.mem_append_right _ hp))
        have Ib : Inv (X.blk sc x ys fp C s H) (pinsAt fp s5.heap) (none :: σ) H8 { s8 with heap := h9, toks := s8.toks } := Ia.turned (it := s.heap.objs.size) (fun b o hb e => (sb9.2 b hb).trans e) p2 p3 (.inr (Nat.le_refl _))
          (fun y c e z => by
            obtain ⟨v, o, ho, _⟩ := I.cell y c (cs.cl I e).1
            exact absurd (Heap.lt_size ho) (by rw [z]; exact Nat.lt_irrefl _))
          (fun p hp z => by
            have hp' : p ∈ pinsAt fp s5.heap := by simpa using (show p ∈ ([] : List (Addr × Obj)) ++ pinsAt fp s5.heap from hp)
            exact fpD (z ▸ (of_pinsAt hp').1))
        refine ⟨m', hm, i + 1, acc ++ [z], H8, its ++ [u8], n9, Ib.pins_of fun p hp => ?_, rv.append (.cons r8 .nil), ?_, T.keep _ _ _ t8 fun b hb o e => ?_, f8, w8⟩
        · obtain rfl : p = (s.heap.objs.size, lobj (its ++ [u8]) n9) := by simpa using hp
          exact ⟨e9', p2, p3, p4, fun v z => by cases z⟩
        · rw [List.length_append, List.length_singleton]
          omega
        · exact (sb9.2 b (fun z => fpD (z ▸ hb))).trans e
  exact codeAny_compStart_list (loop _ rfl _ rfl) (T.self _ 0 _ _ _ (T.keep 0 _ _ st fun b hb o e => old b o e) (loop _ rfl _ rfl))
end
end L2
set_option Elab.async false
set_option linter.all false
set_option maxRecDepth 100000
set_option maxHeartbeats 4000000
namespace L2
open PySem PySem.Spec PyProof.Rows
section
variable {X : Cx} {sc : Scope} {x : Str} {ys : List Str} {px : Pos} {elt iter : Expr} {ifs : List Expr} {pos : Pos} {wi : TI} {tt : TT} {te : TE}
theorem comp_back {pins : List (Addr × Obj)} {σ σ' : St} {H H' : Hp} {s s' : Shared} (cs : CompSc X.env.scope X.N sc x ys) (I : Inv X pins σ H s) {fp : List Addr} (hf : ∀ b ∈ fp, FpOk X pins H b) {D C : Addr} {its : List Value} {n : Nat} {acc : List V}
    (I' : Inv (X.blk sc x ys fp C s H) [(D, lobj its n)] σ' H' s') (hDC : D ≠ C) (hD : s.heap.objs.size ≤ D) (hC : s.heap.objs.size ≤ C) (rv : Vals acc its) (hz : acc.length ≤ sizeLine) {h' : Heap} (sb : Heap.SameBut C s'.heap h') :
    Inv X pins σ (upd H' D (.lst acc)) { s' with heap := h' } := by
  obtain ⟨p1, p2, p3, p4, p5⟩ := I'.pin (D, lobj its n) (List.mem_append_right _ (List.mem_singleton.mpr rfl))
  have below : ∀ b o, s.heap.get? b = some o → b ≠ D ∧ b ≠ C := fun b o e => ⟨Nat.ne_of_lt (Nat.lt_of_lt_of_le (Heap.lt_size e) hD), Nat.ne_of_lt (Nat.lt_of_lt_of_le (Heap.lt_size e) hC)⟩
  have U : Un (frs X.stack) fp H H' s.heap s'.heap := I'.base
  have hfree : H' C = none := I'.free
  refine I.call' (ch := fp) I'.os ⟨fun b o e n hb hx => ?_, fun b o e n hb hx => ?_, fun b o e n hx => ?_, fun b o e hx => ?_, fun b xs e => ?_, fun b o u e => ?_, fun b ps e => ?_⟩ (fun b o e => ?_) I'.bare fun b hb => ⟨(hf b hb).2.2.2.1, (hf b hb).2.1, (hf b hb).2.2.2.2.1, (hf b hb).2.2.2.2.2⟩
  · exact (sb.2 b (below b o e).2).trans (U.keep b o e n hb hx)
  · obtain ⟨sl, q⟩ := U.slot b o e n hb hx
    exact ⟨sl, (sb.2 b (below b o e).2).trans q⟩
  · rw [upd_ne (below b o e).1]
    exact U.free b o e n hx
  · obtain ⟨o', q⟩ := U.there b o e hx
    exact ⟨o', (sb.2 b (below b o e).2).trans q⟩
  · rw [upd_ne (ne_of_none (U.tups b xs e) p2)]
    exact U.tups b xs e
  · rw [upd_ne (ne_of_none (U.frzs b o u e) p2)]
    exact U.frzs b o u e
  · obtain ⟨more, q⟩ := U.tbls b ps e
    exact ⟨more, by rw [upd_ne (ne_of_none q p2)]; exact q⟩
  · by_cases hb : b = D
    · subst hb
      rw [upd_same] at e
      cases e
      exact ⟨hz, its, n, rv, (sb.2 b hDC).trans p1⟩
    · rw [upd_ne hb] at e
      refine (I'.hok b o e).stay (fun c v hc q => (sb.2 c ?_).trans q) (fun c q => ?_) fun c xs q => ?_
      · rintro rfl
        rcases hc with hc | hc
        · rw [hc, e] at hfree
          cases hfree
        · rw [hc] at hfree
          cases hfree
      · rw [upd_ne (ne_of_none q p2)]
        exact q
      · rw [upd_ne (ne_of_none q p2)]
        exact q
theorem SameBut.rfl' (a : Addr) (h : Heap) : Heap.SameBut a h h := ⟨rfl, fun _ _ => rfl⟩
theorem pe_comp (hi : PI X (.Name x px) iter wi) (ys : List Str) (ht : ∀ ex C s H, PIfs (X.blk sc x ys ex C s H) ifs tt) (he : ∀ ex C s H, PE (X.blk sc x ys ex C s H) elt te) (hcs : compOk X.env.scope X.N sc x ys = true) (hc : X.calm = true := by rfl)
    (hs : ∀ x, foldedSetIterable iter X.env x = pure x := by intro _; rfl) : PE X (.ListComp elt [⟨.Name x px, iter, ifs, 0⟩] sc pos) (tComp wi tt te) := by
  have cs := CompSc.of hcs
  intro pins s σ H Q I h
  rw [eval_ListComp]
  refine wpAny_comprehension_free (use := none) (cl := clOf sc X.env) rfl hs (clos_eq fun p hp hk => cs.cell I (by rw [← hk]; exact hp)) cs.kind cs.locs ?_
  refine thn (hi pins s σ H _ I h) fun v s1 h1 => thn h1 fun itv s2 h2 => ?_
  obtain ⟨it, fp, tn, J, H2, rfl, I2, T, st2, f2, W, ⟨m0, w0⟩, turn⟩ := h2
  refine comp_run (M := fun acc cenv => compPost (model X.prog X.w) X.A X.xe none (EP X pins σ Q) acc cenv.locals) hc cs I2 ht he T st2 f2 w0 (F := fun acc H => ∀ p, H p = none → Q (.ref p) (upd H p (.lst acc))) turn fun D C cenv s' acc H' its n hce hDC hD hC I' rv hz q => ?_
  obtain ⟨m, hn, _⟩ := I'.loc
  refine ⟨m, by rw [hce]; exact hn, fun h' sb => ?_⟩
  rw [hce] at sb
  exact ⟨.ref D, _, comp_back cs I2 f2 I' hDC hD hC rv hz sb, rfl, q D (I'.pin (D, lobj its n) (List.mem_append_right _ (List.mem_singleton.mpr rfl))).2.1⟩
theorem ps_setC {i : Nat} {y : Str} {py spos : Pos} (hN : X.N.Nodup) (hiy : X.N[i]? = some y) (hy : X.env.scope.names.lookup y = some .local) (hi : PI X (.Name x px) iter wi) (ys : List Str) (ht : ∀ ex C s H, PIfs (X.blk sc x ys ex C s H) ifs tt) (he : ∀ ex C s H, PE (X.blk sc x ys ex C s H) elt te)
    (hcs : compOk X.env.scope X.N sc x ys = true) (hc : X.calm = true := by rfl) (hs : ∀ x, foldedSetIterable iter X.env x = pure x := by intro _; rfl)
    (hsw : swapsWith (.ListComp elt [⟨.Name x px, iter, ifs, 0⟩] sc pos) (some (.Name y py)) spos.line X.env = pure true := by rfl) :
    PS X (.Assign [.Name y py] (.ListComp elt [⟨.Name x px, iter, ifs, 0⟩] sc pos) spos) (fun D σ H => tComp wi tt te σ H fun v H1 => D.nx (σ.set i (some v)) H1) := by
  have cs := CompSc.of hcs
  intro pins s σ H D I h
  rw [exec_Assign_Name_used _ _ _ _ hsw]
  refine wpAny_bind (wpAny_standAt (wpAny_bind ?_))
  show wpAny _ X.A (do let _ ← comprehension (.ListComp elt [⟨.Name x px, iter, ifs, 0⟩] sc pos) sc X.env _ (newList []) false (eval iter X.env) (some (assign (.Name y py) X.env))) _ _ s
  refine wpAny_bind (wpAny_mono (wpAny_comprehension_free (use := some (assign (.Name y py) X.env)) (cl := clOf sc X.env) (Q := fun _ s' => SP X pins D .next s') rfl hs (clos_eq fun p hp hk => cs.cell I (by rw [← hk]; exact hp)) cs.kind cs.locs ?_) (fun _ s' hq => wpAny_pure (wpAny_pure hq)) fun _ _ e => e)
  refine thn (hi pins s σ H _ I h) fun v s1 h1 => thn h1 fun itv s2 h2 => ?_
  obtain ⟨it, fp, tn, J, H2, rfl, I2, T, st2, f2, W, ⟨m0, w0⟩, turn⟩ := h2
  refine comp_run (M := fun acc cenv => compPost (model X.prog X.w) X.A X.xe (some (assign (.Name y py) X.env)) (fun _ s' => SP X pins D .next s') acc cenv.locals) hc cs I2 ht he T st2 f2 w0
    (F := fun acc H => ∀ p, H p = none → D.nx (σ.set i (some (.ref p))) (upd H p (.lst acc))) turn fun Da C cenv s' acc H' its n hce hDC hD hC I' rv hz q => ?_
  obtain ⟨m, hn, _⟩ := I'.loc
  have Io := comp_back cs I2 f2 I' hDC hD hC rv hz (SameBut.rfl' C s'.heap)
  have hCL : C ≠ X.env.locals := fun e => absurd (Nat.lt_of_lt_of_le I2.lt hC) (by rw [e]; exact Nat.lt_irrefl _)
  have hCc : ∀ z c, X.env.cells.lookup z = some c → c ≠ C := fun z c e e' => by
    obtain ⟨v, o, ho, _⟩ := I2.cell z c e
    exact absurd (Nat.lt_of_lt_of_le (Heap.lt_size ho) hC) (by rw [e']; exact Nat.lt_irrefl _)
  refine wpAny_assign_Name (store_ok2 (v := .ref Da) Io hN hiy (.inl hy) rfl (fun s'' I'' ⟨a, sb, ha⟩ => ?_) (.inr hy))
  have haC : C ≠ a := by
    rcases ha with e | e
    · rw [e]
      exact hCL
    · exact (hCc y a e).symm
  refine ⟨m, by rw [hce]; exact hn.sameBut sb haC, fun h' sb' => ?_⟩
  rw [hce] at sb'
  have hfree : (upd H' Da (.lst acc)) C = none := by
    rw [upd_ne hDC.symm]
    exact I'.free
  refine ⟨_, _, I''.turned (t' := s''.toks) (it := C) (fun b o hb e => (sb'.2 b hb).trans e) hfree hCL (.inr (Nat.le_trans I2.sz hC)) hCc (fun p hp e => ?_), q Da (I'.pin (Da, lobj its n) (List.mem_append_right _ (List.mem_singleton.mpr rfl))).2.1⟩
  exact absurd (Nat.lt_of_lt_of_le (Heap.lt_size (I2.pin p hp).1) hC) (by rw [e]; exact Nat.lt_irrefl _)
end
end L2
set_option Elab.async false
set_option linter.all false
set_option maxRecDepth 100000
set_option maxHeartbeats 4000000
set_option Elab.async false
set_option linter.all false
set_option maxRecDepth 100000
set_option maxHeartbeats 4000000
set_option linter.all false
set_option maxHeartbeats 4000000
set_option maxRecDepth 100000
set_option Elab.async false
set_option linter.all false
set_option maxRecDepth 100000
namespace L2.D
open PySem
inductive PV where
  | non | bl (b : Bool) | int (i : Int) | str (x : Str) | lst (l : List PV) | tup (l : List PV) | ins (c : Nat) (l : List PV)
  deriving Inhabited
def flat : PV → Bool
  | .non => true
  | .bl _ => true
  | .int _ => true
  | .str _ => true
  | _ => false
def eqF : PV → PV → Bool
  | .non, .non => true
  | .bl a, .bl b => a == b
  | .bl a, .int b => (if a then 1 else 0) == b
  | .int a, .bl b => a == (if b then 1 else 0)
  | .int a, .int b => a == b
  | .str a, .str b => a == b
  | _, _ => false
inductive Cn where
  | l (xs : List PV) | d (kvs : List (Int × PV))
  deriving Inhabited
inductive Slot where
  | un | sh (p : PV) | own (c : Cn) | bw (l : List PV)
  deriving Inhabited
abbrev Slot.ow (l : List PV) : Slot := .own (.l l)
abbrev Sto := List Slot
abbrev Den := Sto → Option PV
def Slot.val : Slot → Option PV
  | .un => none
  | .sh p => some p
  | .own (.l l) => some (.lst l)
  | .own (.d _) => none
  | .bw l => some (.lst l)
def Slot.valS : Slot → Option PV
  | .sh p => some p
  | _ => none
inductive Fl where
  | nx (ρ : Sto) | rt (p : PV) | bk (ρ : Sto) | ct (ρ : Sto)
abbrev DenS := Sto → Option Fl
abbrev DenT := Sto → Option Bool
abbrev DenL := Sto → Option (List PV)
def dC (p : PV) : Den := fun _ => some p
def dV (i : Nat) : Den := fun ρ => (ρ[i]?).bind Slot.val
def dVS (i : Nat) : Den := fun ρ => (ρ[i]?).bind Slot.valS
def dUn (g : PV → Option PV) (a : Den) : Den := fun ρ => (a ρ).bind g
def dBin (g : PV → PV → Option PV) (a b : Den) : Den := fun ρ => (a ρ).bind fun x => (b ρ).bind fun y => g x y
def dNil : DenL := fun _ => some []
def dCons (a : Den) (as : DenL) : DenL := fun ρ => (a ρ).bind fun x => (as ρ).bind fun xs => some (x :: xs)
def dCall (F : List PV → Option PV) (as : DenL) : Den := fun ρ => (as ρ).bind F
def dLst (as : DenL) : Den := fun ρ => (as ρ).bind fun xs => if xs.length ≤ sizeLine then some (.lst xs) else none
def dTup (as : DenL) : Den := fun ρ => (as ρ).bind fun xs => if xs.length ≤ sizeLine then some (.tup xs) else none
def toB : PV → Option Bool
  | .bl b => some b
  | _ => none
def tV (a : Den) : DenT := fun ρ => (a ρ).bind toB
def tOr (a b : DenT) : DenT := fun ρ => (a ρ).bind fun c => if c then some true else b ρ
def tNot (a : DenT) : DenT := fun ρ => (a ρ).map (!·)
def gAdd : PV → PV → Option PV
  | .int i, .int j => some (.int (i + j))
  | .str x, .str y => if x.length + y.length ≤ sizeLine then some (.str (x ++ y)) else none
  | .lst l, .lst m => if l.length + m.length ≤ sizeLine then some (.lst (l ++ m)) else none
  | _, _ => none
def gSub : PV → PV → Option PV
  | .int i, .int j => some (.int (i - j))
  | _, _ => none
def mulOk (i j : Int) : Bool := (decide (-(2 ^ 64) < i) && decide (i < 2 ^ 64)) || (decide (-(2 ^ 64) < j) && decide (j < 2 ^ 64))
def gMul : PV → PV → Option PV
  | .int i, .int j => if mulOk i j then some (.int (i * j)) else none
  | _, _ => none
def gDiv : PV → PV → Option PV
  | .int i, .int j => if decide (0 < j) && decide (j < 1073741824) then some (.int (i / j)) else none
  | _, _ => none
def gMod : PV → PV → Option PV
  | .int i, .int j => if decide (0 < j) then some (.int (i % j)) else none
  | _, _ => none
def powOk (i j : Int) : Bool := decide (0 ≤ j) && decide (j ≤ 1000000) && decide (i.natAbs < 2 ^ 64)
def gShl : PV → PV → Option PV
  | .int i, .int j => if powOk i j then some (.int (i * 2 ^ j.toNat)) else none
  | _, _ => none
def gShr : PV → PV → Option PV
  | .int i, .int j => if decide (0 ≤ j) then some (.int (i / 2 ^ j.toNat)) else none
  | _, _ => none
def gAnd : PV → PV → Option PV
  | .int i, .int j => some (.int (Builtin.bitAnd i j))
  | _, _ => none
def gOr : PV → PV → Option PV
  | .int i, .int j => some (.int (Builtin.bitOr i j))
  | _, _ => none
def gNeg : PV → Option PV
  | .int i => some (.int (-i))
  | _ => none
def gLt : PV → PV → Option PV
  | .int i, .int j => some (.bl (decide (i < j)))
  | _, _ => none
def gGt : PV → PV → Option PV
  | .int i, .int j => some (.bl (decide (j < i)))
  | _, _ => none
def gGe : PV → PV → Option PV
  | .int i, .int j => some (.bl (decide (j ≤ i)))
  | _, _ => none
def inP (x : PV) (l : List PV) : Bool := l.any fun y => eqF y x
def gIn : PV → PV → Option PV
  | x, .lst l => if flat x && l.all flat then some (.bl (inP x l)) else none
  | x, .tup l => if flat x && l.all flat then some (.bl (inP x l)) else none
  | _, _ => none
def gNotIn : PV → PV → Option PV
  | x, .lst l => if flat x && l.all flat then some (.bl (!inP x l)) else none
  | x, .tup l => if flat x && l.all flat then some (.bl (!inP x l)) else none
  | _, _ => none
def ixP (n : Nat) (i : Int) : Option Nat := if 0 ≤ i then (if i < n then some i.toNat else none) else if -(n : Int) ≤ i then some (i + n).toNat else none
def itemAt {α : Type} (l : List α) (i : Int) : Option α := (ixP l.length i).bind fun j => l[j]?
def gIx : PV → PV → Option PV
  | .lst l, .int i => itemAt l i
  | .tup l, .int i => itemAt l i
  | .str x, .int i => if x.length ≤ sizeLine then (itemAt x.cps.toList i).map fun c => .str ⟨#[c]⟩ else none
  | _, _ => none
def gLen : PV → Option PV
  | .lst l => some (.int l.length)
  | .tup l => some (.int l.length)
  | .str x => if x.length ≤ sizeLine then some (.int x.length) else none
  | _ => none
def kindP : PV → Nat
  | .int _ => 0
  | .bl _ => 1
  | .str _ => 2
  | .lst _ => 3
  | .tup _ => 4
  | .non => 5
  | .ins _ _ => 6
def isKind (k : Nat) (p : PV) : Bool := kindP p == k || (k == 0 && kindP p == 1)
def gIs (k : Nat) (p : PV) : Option PV := if kindP p = 6 then none else some (.bl (isKind k p))
def sIxP (n d : Nat) : Option Int → Nat
  | none => d
  | some i => if i < 0 then (i + n).toNat else min i.toNat n
def cutP {α : Type} (l : List α) (lo hi : Option Int) : List α := (l.drop (sIxP l.length 0 lo)).take (sIxP l.length l.length hi - sIxP l.length 0 lo)
abbrev DenO := Sto → Option (Option Int)
def oNone : DenO := fun _ => some none
def toI : PV → Option Int
  | .int i => some i
  | _ => none
def oSome (a : Den) : DenO := fun ρ => (a ρ).bind fun p => (toI p).map some
def dSl (a : Den) (lo hi : DenO) : Den := fun ρ => (a ρ).bind fun x => (lo ρ).bind fun l => (hi ρ).bind fun h => match x with
  | .lst xs => some (.lst (cutP xs l h))
  | _ => none
def itemsL : PV → Option (List PV)
  | .lst l => some l
  | _ => none
def itemsT : PV → Option (List PV)
  | .tup l => some l
  | _ => none
def nList (a : Den) : DenL := fun ρ => (a ρ).bind itemsL
def nTup (a : Den) : DenL := fun ρ => (a ρ).bind itemsT
def rangeP (lo : Int) (n : Nat) : List PV := (List.range n).map fun k => .int (lo + (k : Nat))
def rngOk (j : Int) : Bool := decide (-(2 ^ 62) ≤ j) && decide (j < 2 ^ 62)
def nRng1 (a : Den) : DenL := fun ρ => (a ρ).bind fun p => (toI p).bind fun j => if rngOk j then some (rangeP 0 j.toNat) else none
def compL (c : DenT) (e : Den) (ρ : Sto) : List PV → Option (List PV)
  | [] => some []
  | x :: xs => (c (.sh x :: ρ)).bind fun b => if b then (e (.sh x :: ρ)).bind fun z => (compL c e ρ xs).map (z :: ·) else compL c e ρ xs
def tTrue : DenT := fun _ => some true
def dComp (it : DenL) (c : DenT) (e : Den) : Den := fun ρ => (it ρ).bind fun xs => if xs.length ≤ sizeLine then (compL c e ρ xs).map PV.lst else none
def sNext : DenS := fun ρ => some (.nx ρ)
def sSeq (a b : DenS) : DenS := fun ρ => (a ρ).bind fun f => match f with
  | .nx ρ' => b ρ'
  | f => some f
def sSet (i : Nat) (a : Den) : DenS := fun ρ => (a ρ).map fun p => .nx (ρ.set i (.sh p))
def sSetO (i : Nat) (a : Den) : DenS := fun ρ => (a ρ).bind fun p => (itemsL p).map fun l => .nx (ρ.set i (.ow l))
def sRet (a : Den) : DenS := fun ρ => (a ρ).map Fl.rt
def sIf (t : DenT) (a b : DenS) : DenS := fun ρ => (t ρ).bind fun c => if c then a ρ else b ρ
def sRel (i : Nat) : DenS := fun ρ => match ρ[i]? with
  | some (.own (.l l)) => some (.nx (ρ.set i (.sh (.lst l))))
  | _ => some (.nx ρ)
def ownL (ρ : Sto) (i : Nat) : Option (List PV) := match ρ[i]? with
  | some (.own (.l l)) => some l
  | _ => none
def sMut (i : Nat) (g : List PV → List PV → Option (List PV)) (as : DenL) : DenS := fun ρ => (as ρ).bind fun xs => (ownL ρ i).bind fun l => (g l xs).map fun l' => .nx (ρ.set i (.ow l'))
def mAppend (l xs : List PV) : Option (List PV) := match xs with
  | [x] => if l.length < sizeLine then some (l ++ [x]) else none
  | _ => none
def mClear (l xs : List PV) : Option (List PV) := match xs with
  | [] => some []
  | _ => none
abbrev Tgt := PV → Sto → Option Sto
def gtName (i : Nat) : Tgt := fun p ρ => some (ρ.set i (.sh p))
def forL (g : Tgt) (body : DenS) : List PV → DenS
  | [] => fun ρ => some (.nx ρ)
  | x :: xs => fun ρ => (g x ρ).bind fun ρ1 => (body ρ1).bind fun f => match f with
    | .nx ρ' => forL g body xs ρ'
    | .ct ρ' => forL g body xs ρ'
    | .bk ρ' => some (.nx ρ')
    | .rt p => some (.rt p)
def sFor (it : DenL) (g : Tgt) (body : DenS) : DenS := fun ρ => (it ρ).bind fun xs => forL g body xs ρ
def whileN (t : DenT) (body : DenS) : Nat → DenS
  | 0 => fun _ => none
  | n + 1 => fun ρ => (t ρ).bind fun c => if c then (body ρ).bind fun f => match f with
      | .nx ρ' => whileN t body n ρ'
      | .ct ρ' => whileN t body n ρ'
      | .bk ρ' => some (.nx ρ')
      | .rt p => some (.rt p)
    else some (.nx ρ)
def sRetV (i : Nat) : DenS := fun ρ => (ownL ρ i).map fun l => .rt (.lst l)
def intsP : List PV → Option (List Int)
  | [] => some []
  | .int i :: l => (intsP l).map (i :: ·)
  | _ :: _ => none
def gTuple : PV → Option PV
  | .lst l => some (.tup l)
  | .tup l => some (.tup l)
  | _ => none
def startP (n : Nat) (ps : List PV) : Sto := ps.map Slot.sh ++ List.replicate (n - ps.length) .un
def endP (fr : Bool) : Fl → Option PV
  | .rt p => some p
  | .nx _ => if fr then none else some .non
  | _ => none
def fn (fr : Bool) (n k : Nat) (body : DenS) (ps : List PV) : Option PV := if ps.length = k then (body (startP n ps)).bind (endP fr) else none
end L2.D
set_option Elab.async false
set_option linter.all false
set_option maxRecDepth 100000
namespace L2.D
open PySem
def dListR (it : DenL) : Den := fun ρ => (it ρ).bind fun l => if l.length ≤ 100000 then some (.lst l) else none
end L2.D
set_option Elab.async false
set_option linter.all false
namespace L2.D
open PySem
def gtAll : List Tgt → List PV → Sto → Option Sto
  | [], [], ρ => some ρ
  | t :: ts, p :: ps, ρ => (t p ρ).bind (gtAll ts ps)
  | _, _, _ => none
def gtTup (ts : List Tgt) : Tgt := fun p ρ => match p with
  | .tup l => gtAll ts l ρ
  | _ => none
def sAsg (g : Tgt) (a : Den) : DenS := fun ρ => (a ρ).bind fun p => (g p ρ).map Fl.nx
end L2.D
set_option Elab.async false
set_option linter.all false
set_option maxRecDepth 100000
namespace L2.D
open PySem
def cutS (x : Str) (lo hi : Option Int) (st : Int) : Str := if (st == 1 && (Builtin.Str.strSliceIndices lo hi st x.length).length == x.length) = true then x else ⟨((Builtin.Str.strSliceIndices lo hi st x.length).filterMap (x.cps[·]?)).toArray⟩
def dSlA (a : Den) (lo hi : DenO) : Den := fun ρ => (a ρ).bind fun x => (lo ρ).bind fun l => (hi ρ).bind fun h => match x with
  | .lst xs => some (.lst (cutP xs l h))
  | .str y => if y.length ≤ sizeLine then some (.str (cutS y l h 1)) else none
  | _ => none
def gRev : PV → Option PV
  | .str y => if y.length ≤ sizeLine then some (.str (cutS y none none (-1))) else none
  | _ => none
def gFind : PV → PV → Option PV
  | .str x, .str y => some (.int (Txt.find x y))
  | _, _ => none
def strsP : List PV → Option (List Str)
  | [] => some []
  | .str x :: l => (strsP l).map (x :: ·)
  | _ :: _ => none
def gJoin : PV → PV → Option PV
  | .str x, .lst l => (strsP l).bind fun ts => if JoinOk x ts then some (.str (Txt.join x ts)) else none
  | _, _ => none
def gStr : PV → Option PV
  | .int i => if decide (i.natAbs < 1000000) then some (.str (toString i)) else none
  | _ => none
def maxL : List Int → Option Int
  | [] => none
  | x :: l => some (l.foldl (fun a b => if b > a then b else a) x)
end L2.D
set_option Elab.async false
set_option linter.all false
set_option maxRecDepth 100000
namespace L2.D
open PySem
def fldP (ft : Nat → List Str) (f : Str) : PV → Option PV
  | .ins c l => ((ft c).zip l).lookup f
  | _ => none
def dMeth (Fs : Nat → List PV → Option PV) (o : Den) (as : DenL) : Den := fun ρ => (o ρ).bind fun p => match p with
  | .ins c l => (as ρ).bind fun xs => Fs c (.ins c l :: xs)
  | _ => none
def gHand : PV → Option PV
  | .str x => some (.ins 0 [.str x])
  | _ => none
def gAllO : PV → Option PV
  | .lst l => some (.ins 1 [.int l.length, .tup l])
  | _ => none
def gAnyO : PV → Option PV
  | .lst l => some (.ins 2 [.int 1, .tup l])
  | _ => none
def gSomeO : PV → PV → Option PV
  | .int m, .lst l => some (.ins 3 [.int m, .tup l])
  | _, _ => none
def ftR (c : Nat) : List Str := if c = 0 then ["name"] else if c < 4 then ["wanted", "parts"] else []
def gIsR : PV → Option PV
  | .ins c _ => if decide (c < 4) then some (.bl true) else none
  | _ => none
def gMaxL : PV → Option PV
  | .lst l => (intsP l).bind fun ns => (maxL ns).map PV.int
  | _ => none
def sNever : DenS := fun _ => none
end L2.D
set_option Elab.async false
set_option linter.all false
set_option maxRecDepth 100000
namespace L2.D
open PySem
def idxS (x : Str) : List Str → Nat
  | [] => 0
  | y :: l => if y = x then 0 else 1 + idxS x l
def gIndex : PV → PV → Option PV
  | .tup l, .str x => (strsP l).bind fun ts => if decide (x ∈ ts) then some (.int (idxS x ts : Nat)) else none
  | _, _ => none
def gRevL : PV → Option PV
  | .lst l => some (.lst l.reverse)
  | _ => none
def gEqF : PV → PV → Option PV
  | .int a, .int b => some (.bl (decide (a = b)))
  | .str a, .str b => some (.bl (decide (a = b)))
  | .bl a, .bl b => some (.bl (decide (a = b)))
  | _, _ => none
def gNeF (p q : PV) : Option PV := (gEqF p q).bind fun r => match r with
  | .bl b => some (.bl (!b))
  | _ => none
end L2.D
set_option Elab.async false
set_option linter.all false
set_option maxRecDepth 100000
set_option Elab.async false
set_option linter.all false
set_option maxRecDepth 100000
set_option maxHeartbeats 1000000
namespace L2.D
open PySem PySem.Spec PyProof.Rows
open Classical
structure Kl where
  adr : Nat → Addr
  fld : Nat → List Str
def SL (K : PySem.W.Frag) (H : Hp) (a : Addr) (xs : List V) : Prop :=
  Rd H a (.lst xs) ∨ ∃ (its : List Value) (n : Nat), K.lookup a = some { cls := .type "list", data := .seq its.toArray n } ∧ its.length ≤ sizeLine ∧ Vals xs its
theorem SL.of {K : PySem.W.Frag} {H : Hp} {a : Addr} {xs : List V} (h : H a = some (.lst xs)) : SL K H a xs := .inl (.inl h)
theorem SL.sq {K : PySem.W.Frag} {H : Hp} {a : Addr} {xs : List V} (h : SL K H a xs) : SqL K H a xs := by
  rcases h with h | ⟨its, n, h1, h2, h3⟩
  · exact .inl h
  · exact .inr ⟨_, its.toArray, n, h1, rfl, rfl, rfl, by simpa using h2, by simpa using h3⟩
theorem _root_.L2.Same.sl {K : PySem.W.Frag} {H H' : Hp} {a : Addr} {xs : List V} (e : Same H H') (h : SL K H a xs) : SL K H' a xs := by
  rcases h with (h | ⟨o, h⟩) | h
  · exact .inl (.inl (e _ _ h))
  · exact .inl (.inr ⟨o, e _ _ h⟩)
  · exact .inr h
theorem _root_.L2.Inv.sl {X : Cx} {pins : List (Addr × Obj)} {σ : St} {H : Hp} {s : Shared} {a : Addr} {xs : List V} (I : Inv X pins σ H s) (h : SL X.K H a xs) : ∃ (its : List Value) (n : Nat), Vals xs its ∧ s.heap.get? a = some { cls := .type "list", data := .seq its.toArray n } ∧ xs.length ≤ sizeLine := by
  rcases h with h | ⟨its, n, h1, h2, h3⟩
  · obtain ⟨z, its, n, r, e⟩ := h.ok I.hok
    exact ⟨its, n, r, e, z⟩
  · exact ⟨its, n, h3, I.kIn a _ h1, by rw [h3.length]; exact h2⟩
mutual
inductive Rep (K : PySem.W.Frag) (κ : Kl) (H : Hp) : V → PV → Prop
  | non : Rep K κ H .non .non
  | bl (b : Bool) : Rep K κ H (.bl b) (.bl b)
  | int (i : Int) : Rep K κ H (.int i) (.int i)
  | str (x : Str) : Rep K κ H (.str x) (.str x)
  | lst {a : Addr} {vs : List V} {l : List PV} : SL K H a vs → Reps K κ H vs l → Rep K κ H (.ref a) (.lst l)
  | tup {a : Addr} {vs : List V} {l : List PV} : SqT K H a vs → Reps K κ H vs l → Rep K κ H (.ref a) (.tup l)
  | ins {a dx : Addr} {c : Nat} {vs : List V} {l : List PV} : H a = some (.ins (κ.adr c) dx ((κ.fld c).zip vs)) → vs.length = (κ.fld c).length → Reps K κ H vs l → Rep K κ H (.ref a) (.ins c l)
inductive Reps (K : PySem.W.Frag) (κ : Kl) (H : Hp) : List V → List PV → Prop
  | nil : Reps K κ H [] []
  | cons {v : V} {p : PV} {vs : List V} {l : List PV} : Rep K κ H v p → Reps K κ H vs l → Reps K κ H (v :: vs) (p :: l)
end
section
variable {K : PySem.W.Frag} {κ : Kl} {H H' H1 : Hp}
theorem sameT {a : Addr} {xs : List V} (e : Same H H') (h : SqT K H a xs) : SqT K H' a xs := by
  rcases h with (h | ⟨o, h⟩) | h
  · exact .inl (.inl (e _ _ h))
  · exact .inl (.inr ⟨o, e _ _ h⟩)
  · exact .inr h
mutual
theorem Rep.mono (e : Same H H') : ∀ {v : V} {p : PV}, Rep K κ H v p → Rep K κ H' v p
  | _, _, .non => .non
  | _, _, .bl b => .bl b
  | _, _, .int i => .int i
  | _, _, .str x => .str x
  | _, _, .lst h r => .lst (e.sl h) (Reps.mono e r)
  | _, _, .tup h r => .tup (sameT e h) (Reps.mono e r)
  | _, _, .ins h z r => .ins (e _ _ h) z (Reps.mono e r)
theorem Reps.mono (e : Same H H') : ∀ {vs : List V} {l : List PV}, Reps K κ H vs l → Reps K κ H' vs l
  | _, _, .nil => .nil
  | _, _, .cons r t => .cons (Rep.mono e r) (Reps.mono e t)
end
theorem Reps.length : ∀ {vs : List V} {l : List PV}, Reps K κ H vs l → vs.length = l.length
  | _, _, .nil => rfl
  | _, _, .cons _ t => by rw [List.length_cons, List.length_cons, t.length]
theorem Reps.append : ∀ {vs ws : List V} {l m : List PV}, Reps K κ H vs l → Reps K κ H ws m → Reps K κ H (vs ++ ws) (l ++ m)
  | _, _, _, _, .nil, s => s
  | _, _, _, _, .cons r t, s => .cons r (t.append s)
theorem Reps.get : ∀ {vs : List V} {l : List PV} {i : Nat} {p : PV}, Reps K κ H vs l → l[i]? = some p → ∃ v, vs[i]? = some v ∧ Rep K κ H v p
  | _, _, _, _, .nil, e => by simp at e
  | _, _, 0, _, .cons r _, e => by simp at e; subst e; exact ⟨_, rfl, r⟩
  | _, _, i + 1, p, .cons _ t, e => by
    obtain ⟨v, h1, h2⟩ := Reps.get (i := i) (p := p) t (by simpa using e)
    exact ⟨v, by simpa using h1, h2⟩
theorem Reps.take : ∀ {vs : List V} {l : List PV} (n : Nat), Reps K κ H vs l → Reps K κ H (vs.take n) (l.take n)
  | _, _, 0, _ => .nil
  | _, _, _ + 1, .nil => .nil
  | _, _, n + 1, .cons r t => .cons r (t.take n)
theorem Reps.drop : ∀ {vs : List V} {l : List PV} (n : Nat), Reps K κ H vs l → Reps K κ H (vs.drop n) (l.drop n)
  | _, _, 0, r => r
  | _, _, _ + 1, .nil => .nil
  | _, _, n + 1, .cons _ t => t.drop n
end
noncomputable def hide (A : Addr → Prop) (H : Hp) : Hp := fun b => if A b then none else H b
theorem hide_of {A : Addr → Prop} {H : Hp} {b : Addr} (h : ¬ A b) : hide A H b = H b := if_neg h
theorem hide_some {A : Addr → Prop} {H : Hp} {b : Addr} {o : HO} (h : hide A H b = some o) : ¬ A b ∧ H b = some o := by
  unfold hide at h
  by_cases e : A b
  · rw [if_pos e] at h
    cases h
  · rw [if_neg e] at h
    exact ⟨e, h⟩
theorem hide_same {A : Addr → Prop} {H H' : Hp} (h : Same H H') : Same (hide A H) (hide A H') := fun b o e => by
  obtain ⟨h1, h2⟩ := hide_some e
  rw [hide_of h1]
  exact h b o h2
theorem hide_sub {A B : Addr → Prop} {H H' : Hp} (h : Same H H') (s : ∀ b, B b → H b ≠ none → A b) : Same (hide A H) (hide B H') := fun b o e => by
  obtain ⟨h1, h2⟩ := hide_some e
  rw [hide_of fun z => h1 (s b z (by rw [h2]; simp))]
  exact h b o h2
theorem hide_full {A : Addr → Prop} {H : Hp} : Same (hide A H) H := fun b o e => (hide_some e).2
theorem hide_upd {A : Addr → Prop} {H : Hp} {a : Addr} {o : HO} (h : A a) : hide A (upd H a o) = hide A H := by
  funext b
  unfold hide
  by_cases e : A b
  · rw [if_pos e, if_pos e]
  · rw [if_neg e, if_neg e]
    exact upd_ne fun z => e (z ▸ h)
theorem same_upd {H : Hp} {a : Addr} {o : HO} (h : H a = none) : Same H (upd H a o) := fun b u q => by rw [upd_ne (ne_of_none q h)]; exact q
def hoOf : Cn → List V → HO
  | .l _, vs => .lst vs
  | .d d, vs => .dK (List.zipWith (fun (p : Int × PV) (v : V) => ((Sum.inl p.1 : Key), v)) d vs)
def itOf : Cn → List PV
  | .l l => l
  | .d d => d.map (·.2)
def ownS (own : Nat → Addr) (ρ : Sto) : Addr → Prop := fun b => ∃ i l, ρ[i]? = some (.own l) ∧ own i = b
def hset (A : Addr → Prop) (own : Nat → Addr) (ρ : Sto) : Addr → Prop := fun b => A b ∨ ownS own ρ b
noncomputable abbrev hid (A : Addr → Prop) (own : Nat → Addr) (ρ : Sto) (H : Hp) : Hp := hide (hset A own ρ) H
structure R (K : PySem.W.Frag) (κ : Kl) (G : Hp) (A : Addr → Prop) (bo : Nat → Option (Addr × List V)) (own : Nat → Addr) (ρ : Sto) (σ : St) (H : Hp) : Prop where
  al : ∀ b, A b → G b ≠ none
  bg : ∀ i a vs, bo i = some (a, vs) → G a = some (.lst vs)
  same : Same G H
  sh : ∀ (i : Nat) p, ρ[i]? = some (.sh p) → ∃ v, σ[i]? = some (some v) ∧ Rep K κ (hid A own ρ H) v p
  ow : ∀ (i : Nat) l, ρ[i]? = some (.own l) → σ[i]? = some (some (.ref (own i))) ∧ G (own i) = none ∧ ∃ vs, H (own i) = some (hoOf l vs) ∧ Reps K κ (hid A own ρ H) vs (itOf l)
  inj : ∀ (i j : Nat) l m, ρ[i]? = some (.own l) → ρ[j]? = some (.own m) → own i = own j → i = j
  bw : ∀ (i : Nat) l, ρ[i]? = some (.bw l) → ∃ a vs, bo i = some (a, vs) ∧ σ[i]? = some (some (.ref a)) ∧ Reps K κ (hid A own ρ H) vs l
  len : σ.length = ρ.length
section
variable {K : PySem.W.Frag} {κ : Kl} {G G' H H' H1 : Hp} {A : Addr → Prop} {bo : Nat → Option (Addr × List V)} {own own' : Nat → Addr} {ρ ρ' : Sto} {σ σ' : St}
theorem R.mono (r : R K κ G A bo own ρ σ H) (s : Same H H1) : R K κ G A bo own ρ σ H1 where
  al := r.al
  bg := r.bg
  same := r.same.trans s
  sh := fun i p e => let ⟨v, h1, h2⟩ := r.sh i p e; ⟨v, h1, h2.mono (hide_same s)⟩
  ow := fun i l e => let ⟨h1, h2, vs, h3, h4⟩ := r.ow i l e; ⟨h1, h2, vs, s _ _ h3, h4.mono (hide_same s)⟩
  inj := r.inj
  bw := fun i l e => let ⟨a, vs, h1, h2, h3⟩ := r.bw i l e; ⟨a, vs, h1, h2, h3.mono (hide_same s)⟩
  len := r.len
theorem R.new (r : R K κ G A bo own ρ σ H) {a : Addr} (h : H a = none) : ¬ hset A own ρ a := by
  rintro (z | ⟨i, l, h1, rfl⟩)
  · cases e : G a with
    | none => exact r.al a z e
    | some o =>
      rw [r.same _ _ e] at h
      cases h
  · obtain ⟨_, _, vs, h3, _⟩ := r.ow i l h1
    rw [h3] at h
    cases h
theorem R.alH (r : R K κ G A bo own ρ σ H) {b : Addr} (h : hset A own ρ b) : H b ≠ none := fun z => r.new z h
noncomputable def vis (own : Nat → Addr) (ρ : Sto) (H : Hp) : Hp := hide (ownS own ρ) H
theorem hide_vis : hide A (vis own ρ H) = hid A own ρ H := by
  funext b
  unfold vis hid hide hset
  by_cases h1 : A b <;> by_cases h2 : ownS own ρ b <;> simp [h1, h2]
theorem R.gv (r : R K κ G A bo own ρ σ H) : Same G (vis own ρ H) := fun b o e => by
  unfold vis
  rw [hide_of]
  · exact r.same _ _ e
  · rintro ⟨i, l, h1, rfl⟩
    rw [(r.ow i l h1).2.1] at e
    cases e
theorem R.big (r : R K κ G A bo own ρ σ H) : R K κ (vis own ρ H) A bo own ρ σ H where
  al := fun b h z => by
    cases e : G b with
    | none => exact r.al b h e
    | some o =>
      rw [r.gv _ _ e] at z
      cases z
  bg := fun i a vs h => r.gv _ _ (r.bg i a vs h)
  same := hide_full
  sh := r.sh
  ow := fun i l e => let ⟨h1, h2, h3⟩ := r.ow i l e; ⟨h1, by unfold vis hide; rw [if_pos ⟨i, l, e, rfl⟩], h3⟩
  inj := r.inj
  bw := r.bw
  len := r.len
theorem R.small (r : R K κ G' A bo own ρ σ H) (s : Same G G') (al : ∀ b, A b → G b ≠ none) (bg : ∀ i a vs, bo i = some (a, vs) → G a = some (.lst vs)) : R K κ G A bo own ρ σ H where
  al := al
  bg := bg
  same := s.trans r.same
  sh := r.sh
  ow := fun i l e => let ⟨h1, h2, h3⟩ := r.ow i l e; ⟨h1, s.free h2, h3⟩
  inj := r.inj
  bw := r.bw
  len := r.len
theorem R.visSame (r : R K κ G A bo own ρ σ H) : Same (hide A G) (hid A own ρ H) := fun b o e => by
  obtain ⟨h1, h2⟩ := hide_some e
  rw [hid, hide_of]
  · exact r.same _ _ h2
  · rintro (z | ⟨i, l, h3, rfl⟩)
    · exact h1 z
    · rw [(r.ow i l h3).2.1] at h2
      cases h2
theorem ownS_set {i : Nat} {p : PV} {b : Addr} (h : ownS own (ρ.set i (.sh p)) b) : ownS own ρ b := by
  obtain ⟨j, l, h1, h2⟩ := h
  rw [List.getElem?_set] at h1
  split at h1
  · split at h1 <;> cases h1
  · exact ⟨j, l, h1, h2⟩
theorem hid_set {i : Nat} {p : PV} : Same (hid A own ρ H) (hid A own (ρ.set i (.sh p)) H) := hide_sub (fun _ _ h => h) fun b h _ => by
  rcases h with h | h
  · exact .inl h
  · exact .inr (ownS_set h)
theorem R.set (r : R K κ G A bo own ρ σ H) {i : Nat} {v : V} {p : PV} (h : Rep K κ (hid A own ρ H) v p) : R K κ G A bo own (ρ.set i (.sh p)) (σ.set i (some v)) H := by
  have ne : ∀ {j : Nat} {x : Slot}, (ρ.set i (.sh p))[j]? = some x → x ≠ .sh p → i ≠ j ∧ ρ[j]? = some x := fun {j x} e nx => by
    rw [List.getElem?_set] at e
    split at e
    · split at e
      · exact absurd (Option.some.inj e).symm nx
      · cases e
    · exact ⟨by assumption, e⟩
  refine ⟨r.al, r.bg, r.same, fun j q e => ?_, fun j l e => ?_, fun j k l m e f => ?_, fun j l e => ?_, by rw [List.length_set, List.length_set]; exact r.len⟩
  · by_cases hj : i = j
    · subst hj
      rw [List.getElem?_set] at e
      rw [if_pos rfl] at e
      split at e
      · injection e with e
        injection e with e
        subst e
        exact ⟨v, by rw [List.getElem?_set, if_pos rfl, if_pos (by rw [r.len]; assumption)], h.mono hid_set⟩
      · cases e
    · rw [List.getElem?_set, if_neg hj] at e
      obtain ⟨u, h1, h2⟩ := r.sh j q e
      exact ⟨u, by rw [List.getElem?_set, if_neg hj]; exact h1, h2.mono hid_set⟩
  · obtain ⟨hj, e⟩ := ne e (by simp)
    obtain ⟨h1, h2, vs, h3, h4⟩ := r.ow j l e
    exact ⟨by rw [List.getElem?_set, if_neg hj]; exact h1, h2, vs, h3, h4.mono hid_set⟩
  · exact r.inj j k l m (ne e (by simp)).2 (ne f (by simp)).2
  · obtain ⟨hj, e⟩ := ne e (by simp)
    obtain ⟨a, vs, h1, h2, h3⟩ := r.bw j l e
    exact ⟨a, vs, h1, by rw [List.getElem?_set, if_neg hj]; exact h2, h3.mono hid_set⟩
theorem R.setO (r : R K κ G A bo own ρ σ H) {i : Nat} {a : Addr} {vs : List V} {l : Cn} (hG : G a = none) (hA : ¬ A a) (hj : ∀ (j : Nat) m, ρ[j]? = some (.own m) → j ≠ i → own j ≠ a) (s : Same (hid A own ρ H) (hide (fun b => hset A own ρ b ∨ b = a) H1)) (hk : ∀ b o, H b = some o → b ≠ a → H1 b = some o)
    (h1 : H1 a = some (hoOf l vs)) (h2 : Reps K κ (hide (fun b => hset A own ρ b ∨ b = a) H1) vs (itOf l)) : R K κ G A bo (fun j => if j = i then a else own j) (ρ.set i (.own l)) (σ.set i (some (.ref a))) H1 := by
  by_cases hi : i < ρ.length
  rotate_left
  · rw [List.set_eq_of_length_le (by omega), List.set_eq_of_length_le (by rw [r.len]; omega)]
    have oe : ∀ (j : Nat) x, ρ[j]? = some x → (if j = i then a else own j) = own j := fun j x e => if_neg fun z => by
      have := (List.getElem?_eq_some_iff.mp e).1
      omega
    have se : hset A (fun j => if j = i then a else own j) ρ = hset A own ρ := by
      funext b
      unfold hset ownS
      refine propext (or_congr Iff.rfl ⟨?_, ?_⟩)
      · rintro ⟨j, m, e, z⟩
        exact ⟨j, m, e, by rw [← oe j _ e]; exact z⟩
      · rintro ⟨j, m, e, z⟩
        exact ⟨j, m, e, by show (if j = i then a else own j) = b; rw [oe j _ e]; exact z⟩
    have sm : Same (hid A own ρ H) (hid A own ρ H1) := s.trans (hide_sub (fun _ _ h => h) fun b h _ => .inl h)
    refine ⟨r.al, r.bg, fun b o e => hk b o (r.same _ _ e) (fun z => by rw [z, hG] at e; cases e), fun j q e => ?_, fun j m e => ?_, fun j k m n e f z => ?_, fun j m e => ?_, r.len⟩
    · obtain ⟨u, z1, z2⟩ := r.sh j q e
      exact ⟨u, z1, by rw [hid, se]; exact z2.mono sm⟩
    · rw [oe j _ e]
      obtain ⟨z1, z2, ws, z3, z4⟩ := r.ow j m e
      have hne : j ≠ i := fun z => by
        have := (List.getElem?_eq_some_iff.mp e).1
        omega
      exact ⟨z1, z2, ws, hk _ _ z3 (hj j m e hne), by rw [hid, se]; exact z4.mono sm⟩
    · skip
      rw [oe j _ e, oe k _ f] at z
      exact r.inj j k m n e f z
    · obtain ⟨b, ws, z1, z2, z3⟩ := r.bw j m e
      exact ⟨b, ws, z1, z2, by rw [hid, se]; exact z3.mono sm⟩
  have hset' : ∀ b, hset A (fun j => if j = i then a else own j) (ρ.set i (.own l)) b → hset A own ρ b ∨ b = a := fun b h => by
    rcases h with h | ⟨j, m, e, z⟩
    · exact .inl (.inl h)
    · by_cases hji : j = i
      · subst hji
        try dsimp only at z
        rw [if_pos rfl] at z
        exact .inr z.symm
      · dsimp only at z
        rw [if_neg hji] at z
        rw [List.getElem?_set, if_neg (Ne.symm hji)] at e
        exact .inl (.inr ⟨j, m, e, z⟩)
  have sm : Same (hide (fun b => hset A own ρ b ∨ b = a) H1) (hid A (fun j => if j = i then a else own j) (ρ.set i (.own l)) H1) := hide_sub (fun _ _ h => h) fun b h _ => hset' b h
  have sm2 : Same (hid A own ρ H) (hid A (fun j => if j = i then a else own j) (ρ.set i (.own l)) H1) := s.trans sm
  refine ⟨r.al, r.bg, fun b o e => hk b o (r.same _ _ e) (fun z => by rw [z, hG] at e; cases e), fun j q e => ?_, fun j m e => ?_, fun j k m n e f z => ?_, fun j m e => ?_, by rw [List.length_set, List.length_set]; exact r.len⟩
  · by_cases hj' : i = j
    · subst hj'
      rw [List.getElem?_set, if_pos rfl, if_pos hi] at e
      cases e
    · rw [List.getElem?_set, if_neg hj'] at e
      obtain ⟨u, z1, z2⟩ := r.sh j q e
      exact ⟨u, by rw [List.getElem?_set, if_neg hj']; exact z1, z2.mono sm2⟩
  · by_cases hj' : i = j
    · subst hj'
      rw [List.getElem?_set, if_pos rfl, if_pos hi] at e
      injection e with e
      injection e with e
      subst e
      try dsimp only
      rw [if_pos rfl]
      exact ⟨by rw [List.getElem?_set, if_pos rfl, if_pos (by rw [r.len]; exact hi)], hG, vs, h1, h2.mono sm⟩
    · rw [List.getElem?_set, if_neg hj'] at e
      obtain ⟨z1, z2, ws, z3, z4⟩ := r.ow j m e
      try dsimp only
      rw [if_neg (Ne.symm hj')]
      exact ⟨by rw [List.getElem?_set, if_neg hj']; exact z1, z2, ws, hk _ _ z3 (hj j m e (Ne.symm hj')), z4.mono sm2⟩
  · skip
    by_cases hj' : i = j <;> by_cases hk' : i = k
    · rw [← hj', ← hk']
    · subst hj'
      rw [List.getElem?_set, if_neg hk'] at f
      rw [if_pos rfl, if_neg (Ne.symm hk')] at z
      exact absurd z.symm (hj k n f (Ne.symm hk'))
    · subst hk'
      rw [List.getElem?_set, if_neg hj'] at e
      rw [if_pos rfl, if_neg (Ne.symm hj')] at z
      exact absurd z (hj j m e (Ne.symm hj'))
    · rw [List.getElem?_set, if_neg hj'] at e
      rw [List.getElem?_set, if_neg hk'] at f
      rw [if_neg (Ne.symm hj'), if_neg (Ne.symm hk')] at z
      exact r.inj j k m n e f z
  · by_cases hj' : i = j
    · subst hj'
      rw [List.getElem?_set, if_pos rfl, if_pos hi] at e
      cases e
    · rw [List.getElem?_set, if_neg hj'] at e
      obtain ⟨b, ws, z1, z2, z3⟩ := r.bw j m e
      exact ⟨b, ws, z1, by rw [List.getElem?_set, if_neg hj']; exact z2, z3.mono sm2⟩
end
end L2.D
set_option Elab.async false
set_option linter.all false
set_option maxRecDepth 100000
set_option maxHeartbeats 1000000
namespace L2.D
open PySem PySem.Spec PyProof.Rows
open Classical
def BR (K : PySem.W.Frag) (κ : Kl) (hH H : Hp) (v : V) (p : PV) : Prop := Rep K κ hH v p ∨ ∃ a vs l, v = .ref a ∧ p = .lst l ∧ SL K H a vs ∧ Reps K κ hH vs l
def OR (K : PySem.W.Frag) (κ : Kl) (A : Addr → Prop) (H H' : Hp) (v : V) (p : PV) : Prop := ∃ a vs l, v = .ref a ∧ p = .lst l ∧ H a = none ∧ H' a = some (.lst vs) ∧ Reps K κ (hide (fun b => A b ∨ b = a) H') vs l
def EvS (K : PySem.W.Frag) (κ : Kl) (te : TE) (f : Den) : Prop :=
  ∀ {G A bo own ρ σ H p Q}, R K κ G A bo own ρ σ H → f ρ = some p → (∀ v H', Same H H' → Rep K κ (hid A own ρ H') v p → Q v H') → te σ H Q
def EvB (K : PySem.W.Frag) (κ : Kl) (te : TE) (f : Den) : Prop :=
  ∀ {G A bo own ρ σ H p Q}, R K κ G A bo own ρ σ H → f ρ = some p → (∀ v H', Same H H' → BR K κ (hid A own ρ H') H' v p → Q v H') → te σ H Q
def EvO (K : PySem.W.Frag) (κ : Kl) (te : TE) (f : Den) : Prop :=
  ∀ {G A bo own ρ σ H p Q}, R K κ G A bo own ρ σ H → f ρ = some p → (∀ v H', Same H H' → OR K κ (hset A own ρ) H H' v p → Q v H') → te σ H Q
def EvT (K : PySem.W.Frag) (κ : Kl) (tt : TT) (f : DenT) : Prop :=
  ∀ {G A bo own ρ σ H b Q}, R K κ G A bo own ρ σ H → f ρ = some b → (∀ H', Same H H' → Q b H') → tt σ H Q
def DE (X : Cx) (κ : Kl) (e : Expr) (f : Den) : Prop := ∃ te, PE X e te ∧ EvS X.K κ te f
def DB (X : Cx) (κ : Kl) (e : Expr) (f : Den) : Prop := ∃ te, PE X e te ∧ EvB X.K κ te f
def DO (X : Cx) (κ : Kl) (e : Expr) (f : Den) : Prop := ∃ te, PE X e te ∧ EvO X.K κ te f
def DT (X : Cx) (κ : Kl) (e : Expr) (f : DenT) : Prop := ∃ tt, PT X e tt ∧ EvT X.K κ tt f
def DW (X : Cx) (κ : Kl) (e : Expr) (f : DenT) : Prop := ∃ tt, PW X e tt ∧ EvT X.K κ tt f
section
variable {K : PySem.W.Frag} {κ : Kl} {G hH hH' H H' H1 : Hp} {A : Addr → Prop} {bo : Nat → Option (Addr × List V)} {own : Nat → Addr} {ρ : Sto} {σ : St} {v : V} {p : PV}
theorem BR.mono (h : BR K κ hH H v p) (s1 : Same hH hH') (s2 : Same H H') : BR K κ hH' H' v p := by
  rcases h with h | ⟨a, vs, l, h1, h2, h3, h4⟩
  · exact .inl (h.mono s1)
  · exact .inr ⟨a, vs, l, h1, h2, s2.sl h3, h4.mono s1⟩
theorem BR.mono' (h : BR K κ (hide A H) H v p) (s2 : Same H H') : BR K κ (hide A H') H' v p := h.mono (hide_same s2) s2
theorem BR.full (h : BR K κ hH H v p) (s : Same hH H) : Rep K κ H v p := by
  rcases h with h | ⟨a, vs, l, rfl, rfl, h3, h4⟩
  · exact h.mono s
  · exact .lst h3 (h4.mono s)
theorem BR.lst {l : List PV} (h : BR K κ hH H v (.lst l)) (s : Same hH H) : ∃ a vs, v = .ref a ∧ SL K H a vs ∧ Reps K κ hH vs l := by
  rcases h with h | ⟨a, vs, l', h1, h2, h3, h4⟩
  · cases h with
    | lst h1 h2 => exact ⟨_, _, rfl, s.sl h1, h2⟩
  · cases h2
    exact ⟨a, vs, h1, h3, h4⟩
theorem BR.tup {l : List PV} (h : BR K κ hH H v (.tup l)) (s : Same hH H) : ∃ a vs, v = .ref a ∧ SqT K H a vs ∧ Reps K κ hH vs l := by
  rcases h with h | ⟨a, vs, l', h1, h2, h3, h4⟩
  · cases h with
    | tup h1 h2 => exact ⟨_, _, rfl, sameT s h1, h2⟩
  · cases h2
theorem BR.int {i : Int} (h : BR K κ hH H v (.int i)) : v = .int i := by
  rcases h with h | ⟨a, vs, l', h1, h2, h3, h4⟩
  · cases h; rfl
  · cases h2
theorem BR.str {i : Str} (h : BR K κ hH H v (.str i)) : v = .str i := by
  rcases h with h | ⟨a, vs, l', h1, h2, h3, h4⟩
  · cases h; rfl
  · cases h2
theorem Rep.toB {i : Bool} (h : Rep K κ hH v (.bl i)) : v = .bl i := by cases h; rfl
theorem R.newO (r : R K κ G A bo own ρ σ H) {a : Addr} {vs : List V} {l : List PV} (h : H a = none) (q : Reps K κ (hid A own ρ H) vs l) : OR K κ (hset A own ρ) H (upd H a (.lst vs)) (.ref a) (.lst l) :=
  ⟨a, vs, l, rfl, rfl, h, upd_same, by
    rw [hide_upd (.inr rfl)]
    exact q.mono (hide_sub (fun _ _ z => z) fun b z nz => by
      rcases z with z | z
      · exact z
      · rw [z] at nz
        exact absurd h nz)⟩
theorem OR.rep (r : R K κ G A bo own ρ σ H) (h : OR K κ (hset A own ρ) H H' v p) : Rep K κ (hid A own ρ H') v p := by
  obtain ⟨a, vs, l, rfl, rfl, h1, h2, h3⟩ := h
  refine .lst (SL.of ?_) (h3.mono (hide_sub (fun _ _ z => z) fun b z _ => .inl z))
  rw [hid, hide_of (r.new h1)]
  exact h2
theorem R.newT (r : R K κ G A bo own ρ σ H) {a : Addr} {vs : List V} {l : List PV} (h : H a = none) (q : Reps K κ (hid A own ρ H) vs l) : Rep K κ (hid A own ρ (upd H a (.tup vs))) (.ref a) (.tup l) := by
  refine .tup (SqT.of ?_) (q.mono (hide_same (same_upd h)))
  rw [hid, hide_of (r.new h)]
  exact upd_same
theorem evb2 {ta tb : TE} {fa fb : Den} {α : Type} {g : PV → PV → Option α} {z : α} {Rr : V → V → Hp → Prop} (ha : EvB K κ ta fa) (hb : EvB K κ tb fb) (r : R K κ G A bo own ρ σ H)
    (e : ((fa ρ).bind fun x => (fb ρ).bind fun y => g x y) = some z) (q : ∀ x y p q H', Same H H' → R K κ G A bo own ρ σ H' → BR K κ (hid A own ρ H') H' x p → BR K κ (hid A own ρ H') H' y q → g p q = some z → Rr x y H') : ta σ H fun x H1 => tb σ H1 fun y H2 => Rr x y H2 := by
  obtain ⟨p1, e1, e⟩ := Option.bind_eq_some_iff.mp e
  obtain ⟨p2, e2, e⟩ := Option.bind_eq_some_iff.mp e
  refine ha r e1 fun x H1 s1 b1 => ?_
  refine hb (r.mono s1) e2 fun y H2 s2 b2 => ?_
  exact q x y p1 p2 H2 (s1.trans s2) (r.mono (s1.trans s2)) (b1.mono' s2) b2 e
end
theorem DE.b {X : Cx} {κ : Kl} {ex : Expr} {f : Den} (h : DE X κ ex f) : DB X κ ex f := let ⟨te, h1, h2⟩ := h; ⟨te, h1, fun r e q => h2 r e fun v H' s z => q v H' s (.inl z)⟩
theorem DO.e {X : Cx} {κ : Kl} {ex : Expr} {f : Den} (h : DO X κ ex f) : DE X κ ex f := let ⟨te, h1, h2⟩ := h; ⟨te, h1, fun r e q => h2 r e fun v H' s z => q v H' s (z.rep r)⟩
theorem DO.b {X : Cx} {κ : Kl} {ex : Expr} {f : Den} (h : DO X κ ex f) : DB X κ ex f := h.e.b
section
variable {X : Cx} {κ : Kl} {e a b c : Expr} {f fa fb fc : Den} {pos : Pos}
theorem de_int {i : Int} {j pos} : DE X κ (.Constant (.int i) j pos) (dC (.int i)) := ⟨_, pe_int, fun {_ _ _ _ _ _ H _ _} r e q => by cases e; exact q _ H (Same.refl _) (.int i)⟩
theorem de_bl {i : Bool} {j pos} : DE X κ (.Constant (.bool i) j pos) (dC (.bl i)) := ⟨_, pe_bl, fun {_ _ _ _ _ _ H _ _} r e q => by cases e; exact q _ H (Same.refl _) (.bl i)⟩
theorem de_str {i : Str} {j pos} : DE X κ (.Constant (.str i) j pos) (dC (.str i)) := ⟨_, pe_str, fun {_ _ _ _ _ _ H _ _} r e q => by cases e; exact q _ H (Same.refl _) (.str i)⟩
theorem db_var (i : Nat) {x : Str} {pos : Pos} (hN : X.N[i]? = some x := by rfl) (hv : Vis X.env.scope x := by first | exact Or.inl rfl | exact Or.inr (Or.inl rfl) | exact Or.inr (Or.inr rfl)) (hd : (x == ("__debug__" : Str)) = false := by decide)
    (hcd : (x == ("__classdict__" : Str)) = false := by decide) : DB X κ (.Name x pos) (dV i) := ⟨_, pe_var hN hv hd hcd, fun {G A bo own ρ σ H p Q} r e q => by
  unfold dV at e
  obtain ⟨s, e1, e2⟩ := Option.bind_eq_some_iff.mp e
  cases s with
  | un => cases e2
  | sh p' =>
    cases e2
    obtain ⟨v, h1, h2⟩ := r.sh i _ e1
    exact ⟨v, h1, q v H (Same.refl _) (.inl h2)⟩
  | own c =>
    cases c with
    | d _ => cases e2
    | l l =>
    cases e2
    obtain ⟨h1, _, vs, h3, h4⟩ := r.ow i _ e1
    exact ⟨_, h1, q _ H (Same.refl _) (.inr ⟨_, vs, l, rfl, rfl, SL.of h3, h4⟩)⟩
  | bw l =>
    cases e2
    obtain ⟨a, vs, h0, h1, h4⟩ := r.bw i _ e1
    exact ⟨_, h1, q _ H (Same.refl _) (.inr ⟨_, vs, l, rfl, rfl, SL.of (r.same _ _ (r.bg _ _ _ h0)), h4⟩)⟩⟩
theorem de_var (i : Nat) {x : Str} {pos : Pos} (hN : X.N[i]? = some x := by rfl) (hv : Vis X.env.scope x := by first | exact Or.inl rfl | exact Or.inr (Or.inl rfl) | exact Or.inr (Or.inr rfl)) (hd : (x == ("__debug__" : Str)) = false := by decide)
    (hcd : (x == ("__classdict__" : Str)) = false := by decide) : DE X κ (.Name x pos) (dVS i) := ⟨_, pe_var hN hv hd hcd, fun {G A bo own ρ σ H p Q} r e q => by
  unfold dVS at e
  obtain ⟨s, e1, e2⟩ := Option.bind_eq_some_iff.mp e
  cases s with
  | un => cases e2
  | sh p' =>
    cases e2
    obtain ⟨v, h1, h2⟩ := r.sh i _ e1
    exact ⟨v, h1, q v H (Same.refl _) h2⟩
  | own l => cases e2
  | bw l => cases e2⟩
theorem de_i2 {op : Operator} {C : Int → Int → Prop} {F : Int → Int → Int} {g : PV → PV → Option PV} (ho : OpR X (binaryOp op) (rI C fun i j => .int (F i j))) (hg : ∀ p q z, g p q = some z → ∃ i j, p = .int i ∧ q = .int j ∧ C i j ∧ z = .int (F i j))
    (ha : DB X κ a fa) (hb : DB X κ b fb) : DE X κ (.BinOp a op b pos) (dBin g fa fb) := by
  obtain ⟨ta, h1, h2⟩ := ha
  obtain ⟨tb, h3, h4⟩ := hb
  refine ⟨_, pe_op ho h1 h3, fun {G A bo own ρ σ H p Q} r e q => ?_⟩
  refine evb2 h2 h4 r e fun x y p1 p2 H' s r' b1 b2 e' => ?_
  obtain ⟨i, j, rfl, rfl, hC, rfl⟩ := hg _ _ _ e'
  exact ⟨i, j, b1.int, b2.int, hC, q _ H' s (.int _)⟩
theorem de_i20 {op : Operator} {F : Int → Int → Int} {g : PV → PV → Option PV} (ho : OpR X (binaryOp op) (rI0 fun i j => .int (F i j))) (hg : ∀ p q z, g p q = some z → ∃ i j, p = .int i ∧ q = .int j ∧ z = .int (F i j))
    (ha : DB X κ a fa) (hb : DB X κ b fb) : DE X κ (.BinOp a op b pos) (dBin g fa fb) := by
  obtain ⟨ta, h1, h2⟩ := ha
  obtain ⟨tb, h3, h4⟩ := hb
  refine ⟨_, pe_op ho h1 h3, fun {G A bo own ρ σ H p Q} r e q => ?_⟩
  refine evb2 h2 h4 r e fun x y p1 p2 H' s r' b1 b2 e' => ?_
  obtain ⟨i, j, rfl, rfl, rfl⟩ := hg _ _ _ e'
  exact ⟨i, j, b1.int, b2.int, q _ H' s (.int _)⟩
theorem de_sub (ha : DB X κ a fa) (hb : DB X κ b fb) : DE X κ (.BinOp a .Sub b pos) (dBin gSub fa fb) := de_i20 op_sub (fun p q z h => by
  (cases p <;> first | (cases h; done) | skip) <;> cases q <;> first | (cases h; exact ⟨_, _, rfl, rfl, rfl⟩) | cases h) ha hb
theorem de_and (ha : DB X κ a fa) (hb : DB X κ b fb) : DE X κ (.BinOp a .BitAnd b pos) (dBin gAnd fa fb) := de_i20 op_and (fun p q z h => by
  (cases p <;> first | (cases h; done) | skip) <;> cases q <;> first | (cases h; exact ⟨_, _, rfl, rfl, rfl⟩) | cases h) ha hb
theorem de_or (ha : DB X κ a fa) (hb : DB X κ b fb) : DE X κ (.BinOp a .BitOr b pos) (dBin gOr fa fb) := de_i20 op_or (fun p q z h => by
  (cases p <;> first | (cases h; done) | skip) <;> cases q <;> first | (cases h; exact ⟨_, _, rfl, rfl, rfl⟩) | cases h) ha hb
theorem ite_some {α : Type} {c : Prop} [Decidable c] {x z : α} (h : (if c then some x else none) = some z) : c ∧ x = z := by
  split at h
  · exact ⟨by assumption, Option.some.inj h⟩
  · cases h
theorem de_div (ha : DB X κ a fa) (hb : DB X κ b fb) : DE X κ (.BinOp a .FloorDiv b pos) (dBin gDiv fa fb) := de_i2 op_fdiv (fun p q z h => by
  (cases p <;> first | (cases h; done) | skip) <;> cases q <;> first | (cases h; done) | skip
  obtain ⟨h1, h2⟩ := ite_some h
  simp only [Bool.and_eq_true, decide_eq_true_eq] at h1
  exact ⟨_, _, rfl, rfl, h1, h2.symm⟩) ha hb
theorem de_mod (ha : DB X κ a fa) (hb : DB X κ b fb) : DE X κ (.BinOp a .Mod b pos) (dBin gMod fa fb) := de_i2 op_mod (fun p q z h => by
  (cases p <;> first | (cases h; done) | skip) <;> cases q <;> first | (cases h; done) | skip
  obtain ⟨h1, h2⟩ := ite_some h
  simp only [Bool.and_eq_true, decide_eq_true_eq] at h1
  exact ⟨_, _, rfl, rfl, h1, h2.symm⟩) ha hb
theorem de_shl (ha : DB X κ a fa) (hb : DB X κ b fb) : DE X κ (.BinOp a .LShift b pos) (dBin gShl fa fb) := de_i2 op_shl (fun p q z h => by
  (cases p <;> first | (cases h; done) | skip) <;> cases q <;> first | (cases h; done) | skip
  obtain ⟨h1, h2⟩ := ite_some h
  simp only [powOk, Bool.and_eq_true, decide_eq_true_eq] at h1
  exact ⟨_, _, rfl, rfl, ⟨h1.1.1, h1.1.2, h1.2⟩, h2.symm⟩) ha hb
theorem de_shr (ha : DB X κ a fa) (hb : DB X κ b fb) : DE X κ (.BinOp a .RShift b pos) (dBin gShr fa fb) := de_i2 op_shr (fun p q z h => by
  (cases p <;> first | (cases h; done) | skip) <;> cases q <;> first | (cases h; done) | skip
  obtain ⟨h1, h2⟩ := ite_some h
  simp only [Bool.and_eq_true, decide_eq_true_eq] at h1
  exact ⟨_, _, rfl, rfl, h1, h2.symm⟩) ha hb
theorem de_mul (ha : DB X κ a fa) (hb : DB X κ b fb) : DE X κ (.BinOp a .Mult b pos) (dBin gMul fa fb) := de_i2 op_mul (fun p q z h => by
  (cases p <;> first | (cases h; done) | skip) <;> cases q <;> first | (cases h; done) | skip
  obtain ⟨h1, h2⟩ := ite_some h
  simp only [mulOk, Bool.or_eq_true, Bool.and_eq_true, decide_eq_true_eq] at h1
  exact ⟨_, _, rfl, rfl, h1, h2.symm⟩) ha hb
theorem de_neg (ha : DB X κ a fa) : DE X κ (.UnaryOp .USub a pos) (dUn gNeg fa) := by
  obtain ⟨ta, h1, h2⟩ := ha
  refine ⟨_, pe_un un_neg h1, fun {G A bo own ρ σ H p Q} r e q => ?_⟩
  obtain ⟨p1, e1, e⟩ := Option.bind_eq_some_iff.mp e
  refine h2 r e1 fun x H1 s1 b1 => ?_
  cases p1 <;> first | (cases e; done) | skip
  cases e
  exact ⟨_, b1.int, q _ H1 s1 (.int _)⟩
theorem sq_add {K : PySem.W.Frag} : OpR X (binaryOp .Add) (fun x y H Q => ∃ l b xs zs, x = .ref l ∧ y = .ref b ∧ SL X.K H l xs ∧ SL X.K H b zs ∧ xs.length + zs.length ≤ sizeLine ∧ ∀ p, H p = none → Q (.ref p) (upd H p (.lst (xs ++ zs)))) := by
  intro pins s σ H x y v u Q I rx ry h
  obtain ⟨l, b, xs, zs, rfl, rfl, hH, hB, hz, q⟩ := h
  cases rx
  cases ry
  obtain ⟨its, n, r, ho, z⟩ := I.sl hH
  obtain ⟨its2, n2, r2, ho2, z2⟩ := I.sl hB
  have l1 := r.length
  have l2 := r2.length
  refine PySem.P.add_list ho ho2 ?_ (by rw [List.size_toArray, List.size_toArray]; omega)
  have ea : its.toArray ++ its2.toArray = (its ++ its2).toArray := by simp
  rw [ea]
  exact ⟨.ref _, _, I.lnew (t' := s.toks) (r.append r2) (by rw [List.length_append]; omega), rfl, q _ I.fresh⟩
theorem de_add (ha : DB X κ a fa) (hb : DB X κ b fb) : DE X κ (.BinOp a .Add b pos) (dBin gAdd fa fb) := by
  obtain ⟨ta, h1, h2⟩ := ha
  obtain ⟨tb, h3, h4⟩ := hb
  refine ⟨_, pe_op (op_add.or (op_add_str.or (sq_add (K := X.K)))) h1 h3, fun {G A bo own ρ σ H p Q} r e q => ?_⟩
  refine evb2 h2 h4 r e fun x y p1 p2 H' s r' b1 b2 e' => ?_
  (cases p1 <;> first | (cases e'; done) | skip) <;> cases p2 <;> first | (cases e'; done) | skip
  · cases e'
    exact .inl ⟨_, _, b1.int, b2.int, q _ H' s (.int _)⟩
  · obtain ⟨h1, rfl⟩ := ite_some e'
    exact .inr (.inl ⟨_, _, b1.str, b2.str, h1, q _ H' s (.str _)⟩)
  · obtain ⟨h1, rfl⟩ := ite_some e'
    obtain ⟨a1, vs1, rfl, q1, w1⟩ := b1.lst hide_full
    obtain ⟨a2, vs2, rfl, q2, w2⟩ := b2.lst hide_full
    refine .inr (.inr ⟨a1, a2, vs1, vs2, rfl, rfl, q1, q2, by rw [w1.length, w2.length]; exact h1, fun p hp => ?_⟩)
    exact q _ _ (s.trans (same_upd hp)) ((r'.newO hp (w1.append w2)).rep r')
def DC (X : Cx) (κ : Kl) (op : CmpOp) (a b : Expr) (f : Den) : Prop := ∃ r ta tb, OpR X (compareOp op) r ∧ PE X a ta ∧ PE X b tb ∧ EvS X.K κ (tOp r ta tb) f
theorem de_cmp {op : CmpOp} (h : DC X κ op a b f) (hm : behindInMarks op b = false := by first | exact nomark _ | with_unfolding_all rfl) : DE X κ (.Compare a [op] [b] pos) f :=
  let ⟨_, _, _, h1, h2, h3, h4⟩ := h; ⟨_, pe_cmpR h1 h2 h3 hm, h4⟩
theorem tV_test {K : PySem.W.Frag} {te : TE} (h : EvS K κ te f) : EvT K κ (tTest te) (tV f) := fun {G A bo own ρ σ H b Q} r e q => by
  obtain ⟨p, e1, e2⟩ := Option.bind_eq_some_iff.mp e
  refine h r e1 fun v H' s z => ?_
  cases p <;> first | (cases e2; done) | skip
  cases e2
  exact ⟨_, z.toB, q H' s⟩
theorem dt_cmp {op : CmpOp} (h : DC X κ op a b f) (hm : behindInMarks op b = false := by first | exact nomark _ | with_unfolding_all rfl) : DT X κ (.Compare a [op] [b] pos) (tV f) :=
  let ⟨_, _, _, h1, h2, h3, h4⟩ := h; ⟨_, pt_cmpR h1 h2 h3 hm, tV_test h4⟩
theorem dt_val (h : DE X κ e f) (he : ∀ whole, isTrue e X.env whole = (do let v ← whole; standAt e.pos; holding [v] (truthy v)) := by intro _; rfl) : DT X κ e (tV f) :=
  let ⟨_, h1, h2⟩ := h; ⟨_, pt_val h1 he, tV_test h2⟩
theorem dc_i {op : CmpOp} {F : Int → Int → Bool} {g : PV → PV → Option PV} (ho : OpR X (compareOp op) (rI0 fun i j => .bl (F i j))) (hg : ∀ p q z, g p q = some z → ∃ i j, p = .int i ∧ q = .int j ∧ z = .bl (F i j))
    (ha : DB X κ a fa) (hb : DB X κ b fb) : DC X κ op a b (dBin g fa fb) := by
  obtain ⟨ta, h1, h2⟩ := ha
  obtain ⟨tb, h3, h4⟩ := hb
  refine ⟨_, _, _, ho, h1, h3, fun {G A bo own ρ σ H p Q} r e q => ?_⟩
  refine evb2 h2 h4 r e fun x y p1 p2 H' s r' b1 b2 e' => ?_
  obtain ⟨i, j, rfl, rfl, rfl⟩ := hg _ _ _ e'
  exact ⟨i, j, b1.int, b2.int, q _ H' s (.bl _)⟩
theorem dc_lt (ha : DB X κ a fa) (hb : DB X κ b fb) : DC X κ .Lt a b (dBin gLt fa fb) := dc_i op_lt (fun p q z h => by
  (cases p <;> first | (cases h; done) | skip) <;> cases q <;> first | (cases h; exact ⟨_, _, rfl, rfl, rfl⟩) | cases h) ha hb
theorem dc_gt (ha : DB X κ a fa) (hb : DB X κ b fb) : DC X κ .Gt a b (dBin gGt fa fb) := dc_i op_gt (fun p q z h => by
  (cases p <;> first | (cases h; done) | skip) <;> cases q <;> first | (cases h; exact ⟨_, _, rfl, rfl, rfl⟩) | cases h) ha hb
theorem dc_ge (ha : DB X κ a fa) (hb : DB X κ b fb) : DC X κ .GtE a b (dBin gGe fa fb) := dc_i op_ge (fun p q z h => by
  (cases p <;> first | (cases h; done) | skip) <;> cases q <;> first | (cases h; exact ⟨_, _, rfl, rfl, rfl⟩) | cases h) ha hb
variable {ft fu : DenT} {rest : List Expr}
theorem dt_not (ha : DT X κ a ft) : DT X κ (.UnaryOp .Not a pos) (tNot ft) := by
  obtain ⟨ta, h1, h2⟩ := ha
  refine ⟨_, pt_not h1, fun {G A bo own ρ σ H p Q} r e q => ?_⟩
  obtain ⟨c, e1, rfl⟩ := Option.map_eq_some_iff.mp e
  exact h2 r e1 fun H' s => q H' s
theorem dw_or1 (ha : DT X κ a ft) : DW X κ (.BoolOp .Or [a] pos) ft := let ⟨_, h1, h2⟩ := ha; ⟨_, pw_or1 h1, h2⟩
theorem dw_or (ha : DT X κ a ft) (hb : DW X κ (.BoolOp .Or (b :: rest) pos) fu) : DW X κ (.BoolOp .Or (a :: b :: rest) pos) (tOr ft fu) := by
  obtain ⟨ta, h1, h2⟩ := ha
  obtain ⟨tb, h3, h4⟩ := hb
  refine ⟨_, pw_or h1 h3, fun {G A bo own ρ σ H p Q} r e q => ?_⟩
  obtain ⟨c, e1, e2⟩ := Option.bind_eq_some_iff.mp e
  refine h2 r e1 fun H1 s1 => ?_
  cases c with
  | false => exact h4 (r.mono s1) e2 fun H2 s2 => q H2 (s1.trans s2)
  | true => cases e2; exact q H1 s1
theorem DW.t (h : DW X κ e ft) : DT X κ e ft := let ⟨_, h1, h2⟩ := h; ⟨_, h1.pt, h2⟩
def DA (X : Cx) (κ : Kl) (es : List Expr) (f : DenL) : Prop := ∃ ta, PA X es ta ∧ ∀ {G A bo own ρ σ H ps Q}, R X.K κ G A bo own ρ σ H → f ρ = some ps → (∀ vs H', Same H H' → Reps X.K κ (hid A own ρ H') vs ps → Q vs H') → ta σ H Q
variable {es : List Expr} {fs : DenL}
theorem da_nil : DA X κ [] dNil := ⟨_, pa_nil, fun {G A bo own ρ σ H ps Q} r e q => by cases e; exact q [] H (Same.refl _) .nil⟩
theorem da_cons (ha : DE X κ a fa) (hr : DA X κ es fs) (hs : starEach (a :: es) X.env = (false, eval a X.env) :: starEach es X.env := by rfl) : DA X κ (a :: es) (dCons fa fs) := by
  obtain ⟨ta, h1, h2⟩ := ha
  obtain ⟨tb, h3, h4⟩ := hr
  refine ⟨_, pa_cons h1 h3 hs, fun {G A bo own ρ σ H ps Q} r e q => ?_⟩
  obtain ⟨x, e1, e2⟩ := Option.bind_eq_some_iff.mp e
  obtain ⟨xs, e3, e4⟩ := Option.bind_eq_some_iff.mp e2
  cases e4
  refine h2 r e1 fun v H1 s1 z1 => h4 (r.mono s1) e3 fun vs H2 s2 z2 => q _ H2 (s1.trans s2) (.cons (z1.mono (hide_same s2)) z2)
theorem do_lst (h : DA X κ es fs) : DO X κ (.List es pos) (dLst fs) := by
  obtain ⟨ta, h1, h2⟩ := h
  refine ⟨_, pe_lst h1, fun {G A bo own ρ σ H ps Q} r e q => ?_⟩
  obtain ⟨x, e1, e2⟩ := Option.bind_eq_some_iff.mp e
  obtain ⟨h3, rfl⟩ := ite_some e2
  refine h2 r e1 fun vs H1 s1 z1 => ⟨by rw [z1.length]; exact h3, fun p hp => q _ _ (s1.trans (same_upd hp)) ?_⟩
  obtain ⟨a, ws, l, w1, w2, w3, w4⟩ := (r.mono s1).newO hp z1
  refine ⟨a, ws, l, w1, w2, ?_, w4⟩
  cases w1
  exact s1.free hp
theorem de_tup {x1} (h : DA X κ es fs) : DE X κ (.Tuple es x1 pos) (dTup fs) := by
  obtain ⟨ta, h1, h2⟩ := h
  refine ⟨_, pe_tup h1, fun {G A bo own ρ σ H ps Q} r e q => ?_⟩
  obtain ⟨x, e1, e2⟩ := Option.bind_eq_some_iff.mp e
  obtain ⟨h3, rfl⟩ := ite_some e2
  exact h2 r e1 fun vs H1 s1 z1 => ⟨by rw [z1.length]; exact h3, fun p hp => q _ _ (s1.trans (same_upd hp)) ((r.mono s1).newT hp z1)⟩
end
end L2.D
set_option Elab.async false
set_option linter.all false
set_option maxRecDepth 100000
set_option maxHeartbeats 1000000
namespace L2.D
open PySem PySem.Spec PyProof.Rows
open Classical
def RR (fr : Bool) (K : PySem.W.Frag) (κ : Kl) (A : Addr → Prop) (G H' : Hp) (v : V) (p : PV) : Prop := if fr = true then OR K κ A G H' v p else Rep K κ (hide A H') v p
def Cont (K : PySem.W.Frag) (κ : Kl) (fr : Bool) (G : Hp) (A : Addr → Prop) (bo : Nat → Option (Addr × List V)) (D : Ends) : Fl → Prop
  | .nx ρ' => ∀ own' σ' H', R K κ G A bo own' ρ' σ' H' → D.nx σ' H'
  | .bk ρ' => ∀ own' σ' H', R K κ G A bo own' ρ' σ' H' → D.bk σ' H'
  | .ct ρ' => ∀ own' σ' H', R K κ G A bo own' ρ' σ' H' → D.ct σ' H'
  | .rt p => ∀ v H', Same G H' → RR fr K κ A G H' v p → D.rt v H'
def SvT (K : PySem.W.Frag) (κ : Kl) (fr : Bool) (ts : TS) (g : DenS) : Prop :=
  ∀ {G A bo own ρ σ H fl D}, R K κ G A bo own ρ σ H → g ρ = some fl → Cont K κ fr G A bo D fl → ts D σ H
def DS (X : Cx) (κ : Kl) (fr : Bool) (st : Stmt) (g : DenS) : Prop := ∃ ts, PS X st ts ∧ SvT X.K κ fr ts g
def DSs (X : Cx) (κ : Kl) (fr : Bool) (st : List Stmt) (g : DenS) : Prop := ∃ ts, PSs X st ts ∧ SvT X.K κ fr ts g
theorem ORg {K : PySem.W.Frag} {κ : Kl} {G H H' : Hp} {A B : Addr → Prop} {v : V} {p : PV} (h : OR K κ B H H' v p) (s : Same G H) (hAB : ∀ b, A b → B b) : OR K κ A G H' v p := by
  obtain ⟨a, vs, l, h1, h2, h3, h4, h5⟩ := h
  exact ⟨a, vs, l, h1, h2, s.free h3, h4, h5.mono (hide_sub (fun _ _ z => z) fun b z _ => z.imp (hAB b) id)⟩
section
variable {X : Cx} {κ : Kl} {fr : Bool} {st : Stmt} {rest : List Stmt} {g g' : DenS} {e a b c : Expr} {f : Den} {ft : DenT} {pos : Pos}
theorem dss_nil : DSs X κ fr [] sNext := ⟨_, pss_nil, fun {G A bo own ρ σ H fl D} r e k => by cases e; exact k own σ H r⟩
theorem svt_seq {K : PySem.W.Frag} {t u : TS} (h1 : SvT K κ fr t g) (h2 : SvT K κ fr u g') : SvT K κ fr (tSeq t u) (sSeq g g') := fun {G A bo own ρ σ H fl D} r e k => by
  obtain ⟨f1, e1, e2⟩ := Option.bind_eq_some_iff.mp e
  refine h1 r e1 ?_
  cases f1 with
  | nx ρ' => exact fun own' σ' H' r' => h2 r' e2 k
  | rt p => cases e2; exact k
  | bk ρ' => cases e2; exact k
  | ct ρ' => cases e2; exact k
theorem dss_cons (h1 : DS X κ fr st g) (h2 : DSs X κ fr rest g') : DSs X κ fr (st :: rest) (sSeq g g') :=
  let ⟨_, a1, a2⟩ := h1; let ⟨_, b1, b2⟩ := h2; ⟨_, pss_cons a1 b1, svt_seq a2 b2⟩
theorem dss_one (h1 : DS X κ fr st g) : DSs X κ fr [st] g := let ⟨_, a1, a2⟩ := h1; ⟨_, pss_one a1, a2⟩
theorem svt_rel {K : PySem.W.Frag} {u : TS} (i : Nat) (h2 : SvT K κ fr u g) : SvT K κ fr u (sSeq (sRel i) g) := fun {G A bo own ρ σ H fl D} r e k => by
  obtain ⟨f1, e1, e2⟩ := Option.bind_eq_some_iff.mp e
  unfold sRel at e1
  split at e1
  · rename_i l h
    cases e1
    obtain ⟨h1, h3, vs, h4, h5⟩ := r.ow i (.l l) h
    change H (own i) = some (.lst vs) at h4
    change Reps _ _ _ vs l at h5
    refine h2 (own := own) (σ := σ) (H := H) ?_ e2 k
    have hi : i < ρ.length := (List.getElem?_eq_some_iff.mp h).1
    have s1 : Same (hid A own ρ H) (hid A own (ρ.set i (.sh (.lst l))) H) := hid_set
    have vis : hid A own (ρ.set i (.sh (.lst l))) H (own i) = some (.lst vs) := by
      rw [hid, hide_of]
      · exact h4
      · rintro (z | ⟨j, m, z1, z2⟩)
        · exact r.al _ z h3
        · by_cases hj : i = j
          · subst hj
            rw [List.getElem?_set, if_pos rfl, if_pos hi] at z1
            cases z1
          · rw [List.getElem?_set, if_neg hj] at z1
            exact hj (r.inj j i _ _ z1 h z2).symm
    refine ⟨r.al, r.bg, r.same, fun j q e => ?_, fun j m e => ?_, fun j k m n e f => ?_, fun j m e => ?_, by rw [List.length_set]; exact r.len⟩
    · by_cases hj : i = j
      · subst hj
        rw [List.getElem?_set, if_pos rfl, if_pos hi] at e
        cases e
        exact ⟨_, h1, .lst (SL.of vis) (h5.mono s1)⟩
      · rw [List.getElem?_set, if_neg hj] at e
        obtain ⟨v, z1, z2⟩ := r.sh j q e
        exact ⟨v, z1, z2.mono s1⟩
    · by_cases hj : i = j
      · subst hj
        rw [List.getElem?_set, if_pos rfl, if_pos hi] at e
        cases e
      · rw [List.getElem?_set, if_neg hj] at e
        obtain ⟨z1, z2, ws, z3, z4⟩ := r.ow j m e
        exact ⟨z1, z2, ws, z3, z4.mono s1⟩
    · have ne : ∀ {j : Nat} {m : Cn}, (ρ.set i (.sh (.lst l)))[j]? = some (.own m) → ρ[j]? = some (.own m) := fun {j m} z => by
        rw [List.getElem?_set] at z
        split at z
        · first | cases z | (split at z <;> cases z)
        · exact z
      exact r.inj j k m n (ne e) (ne f)
    · by_cases hj : i = j
      · subst hj
        rw [List.getElem?_set, if_pos rfl, if_pos hi] at e
        cases e
      · rw [List.getElem?_set, if_neg hj] at e
        obtain ⟨b, ws, z1, z2, z3⟩ := r.bw j m e
        exact ⟨b, ws, z1, z2, z3.mono s1⟩
  · cases e1
    exact h2 r e2 k
theorem dss_rel (i : Nat) (h : DSs X κ fr rest g) : DSs X κ fr rest (sSeq (sRel i) g) := let ⟨_, a1, a2⟩ := h; ⟨_, a1, svt_rel i a2⟩
theorem ds_ret (h : DE X κ e f) : DS X κ false (.Return (some e) pos) (sRet f) := by
  obtain ⟨te, h1, h2⟩ := h
  refine ⟨_, ps_ret h1, fun {G A bo own ρ σ H fl D} r e k => ?_⟩
  obtain ⟨p, e1, rfl⟩ := Option.map_eq_some_iff.mp e
  refine h2 r e1 fun v H' s z => k v H' (r.same.trans s) ?_
  exact z.mono (hide_sub (fun _ _ q => q) fun b q _ => .inl q)
theorem ownL_some {ρ : Sto} {i : Nat} {l : List PV} (h : ownL ρ i = some l) : ρ[i]? = some (.ow l) := by
  unfold ownL at h
  split at h
  · rename_i l' e
    cases h
    exact e
  · cases h
theorem ds_retV (i : Nat) {x : Str} {p' : Pos} (hN : X.N[i]? = some x := by rfl) (hv : Vis X.env.scope x := by first | exact Or.inl rfl | exact Or.inr (Or.inl rfl) | exact Or.inr (Or.inr rfl)) (hd : (x == ("__debug__" : Str)) = false := by decide)
    (hcd : (x == ("__classdict__" : Str)) = false := by decide) : DS X κ true (.Return (some (.Name x p')) pos) (sRetV i) := by
  refine ⟨_, ps_ret (pe_var hN hv hd hcd), fun {G A bo own ρ σ H fl D} r e k => ?_⟩
  obtain ⟨l, e1, rfl⟩ := Option.map_eq_some_iff.mp e
  obtain ⟨h1, h3, vs, h4, h5⟩ := r.ow i (.l l) (ownL_some e1)
  change H (own i) = some (.lst vs) at h4
  change Reps _ _ _ vs l at h5
  refine ⟨_, h1, k _ H r.same ?_⟩
  exact ⟨own i, vs, l, rfl, rfl, h3, h4, h5.mono (hide_sub (fun _ _ z => z) fun b z _ => by
    rcases z with z | z
    · exact .inl z
    · exact .inr ⟨i, .l l, ownL_some e1, z.symm⟩)⟩
theorem ds_if {sa sb : List Stmt} (hc : DT X κ c ft) (ha : DSs X κ fr sa g) (hb : DSs X κ fr sb g') : DS X κ fr (.If c sa sb pos) (sIf ft g g') := by
  obtain ⟨tc, h5, h6⟩ := hc
  obtain ⟨ta, h1, h2⟩ := ha
  obtain ⟨tb, h3, h4⟩ := hb
  refine ⟨_, ps_if h5 h1 h3, fun {G A bo own ρ σ H fl D} r e k => ?_⟩
  obtain ⟨c, e1, e2⟩ := Option.bind_eq_some_iff.mp e
  refine h6 r e1 fun H1 s1 => ?_
  cases c with
  | true => exact h2 (r.mono s1) e2 k
  | false => exact h4 (r.mono s1) e2 k
theorem ds_set (i : Nat) {x : Str} {p' : Pos} (hN : X.N.Nodup) (h : DE X κ e f) (hi : X.N[i]? = some x := by rfl) (hx : Loc X.env.scope x := by first | exact Or.inl rfl | exact Or.inr rfl) (hs : swapsWith e (some (.Name x p')) pos.line X.env = pure false := by rfl)
    (hf : X.fn x = true ∨ X.env.scope.names.lookup x = some .local := by first | exact .inl rfl | exact .inr rfl) : DS X κ fr (.Assign [.Name x p'] e pos) (sSet i f) := by
  obtain ⟨te, h1, h2⟩ := h
  refine ⟨_, ps_set hN hi hx h1 hs hf, fun {G A bo own ρ σ H fl D} r e k => ?_⟩
  obtain ⟨p, e1, rfl⟩ := Option.map_eq_some_iff.mp e
  exact h2 r e1 fun v H' s z => k _ _ _ ((r.mono s).set z)
theorem R.setN {K : PySem.W.Frag} {G H H' : Hp} {A : Addr → Prop} {bo : Nat → Option (Addr × List V)} {own : Nat → Addr} {ρ : Sto} {σ : St} (r : R K κ G A bo own ρ σ H) (s : Same H H') {i : Nat} {v : V} {l : List PV} (z : OR K κ (hset A own ρ) H H' v (.lst l)) :
    ∃ own', R K κ G A bo own' (ρ.set i (.ow l)) (σ.set i (some v)) H' := by
  obtain ⟨a, vs, l', rfl, z2, h3, h4, h5⟩ := z
  cases z2
  refine ⟨_, r.setO (r.same.free h3) (fun q => r.new h3 (.inl q)) (fun j m e _ q => r.new h3 (.inr ⟨j, m, e, q⟩)) ?_ (fun b o q _ => s b o q) h4 h5⟩
  exact hide_sub s fun b w nz => by
    rcases w with w | w
    · exact w
    · rw [w] at nz
      exact absurd h3 nz
theorem ds_setO (i : Nat) {x : Str} {p' : Pos} (hN : X.N.Nodup) (h : DO X κ e f) (hi : X.N[i]? = some x := by rfl) (hx : Loc X.env.scope x := by first | exact Or.inl rfl | exact Or.inr rfl) (hs : swapsWith e (some (.Name x p')) pos.line X.env = pure false := by rfl)
    (hf : X.fn x = true ∨ X.env.scope.names.lookup x = some .local := by first | exact .inl rfl | exact .inr rfl) : DS X κ fr (.Assign [.Name x p'] e pos) (sSetO i f) := by
  obtain ⟨te, h1, h2⟩ := h
  refine ⟨_, ps_set hN hi hx h1 hs hf, fun {G A bo own ρ σ H fl D} r e k => ?_⟩
  obtain ⟨p, e1, e2⟩ := Option.bind_eq_some_iff.mp e
  obtain ⟨l, e3, rfl⟩ := Option.map_eq_some_iff.mp e2
  refine h2 r e1 fun v H' s z => ?_
  cases p <;> first | (cases e3; done) | skip
  cases e3
  obtain ⟨own', r'⟩ := r.setN s (i := i) z
  exact k _ _ _ r'
theorem R.mutC {K : PySem.W.Frag} {G H : Hp} {A : Addr → Prop} {bo : Nat → Option (Addr × List V)} {own : Nat → Addr} {ρ : Sto} {σ : St} (r : R K κ G A bo own ρ σ H) {i : Nat} {l l' : Cn} {ws : List V} (h : ρ[i]? = some (.own l)) (q : Reps K κ (hid A own ρ H) ws (itOf l')) :
    ∃ own', R K κ G A bo own' (ρ.set i (.own l')) σ (upd H (own i) (hoOf l' ws)) := by
  obtain ⟨h1, h3, vs, h4, h5⟩ := r.ow i l h
  have e : σ.set i (some (.ref (own i))) = σ := by
    obtain ⟨hl, hx⟩ := List.getElem?_eq_some_iff.mp h1
    rw [← hx]
    exact List.set_getElem_self hl
  have hs : hset A own ρ (own i) := .inr ⟨i, l, h, rfl⟩
  have he : hide (fun b => hset A own ρ b ∨ b = own i) (upd H (own i) (hoOf l' ws)) = hid A own ρ H := by
    rw [hide_upd (.inr rfl)]
    congr 1
    funext b
    refine propext ⟨fun z => ?_, .inl⟩
    rcases z with z | z
    · exact z
    · rw [z]
      exact hs
  have := r.setO (i := i) (a := own i) (vs := ws) (l := l') (H1 := upd H (own i) (hoOf l' ws)) h3 (fun z => r.al _ z h3) (fun j m e' hj z => hj (r.inj j i _ _ e' h z)) (by rw [he]; exact fun _ _ z => z) (fun b o z hb => by rw [upd_ne hb]; exact z) upd_same (by rw [he]; exact q)
  rw [e] at this
  exact ⟨_, this⟩
def MutOk (K : PySem.W.Frag) (κ : Kl) (rm : V → List V → Hp → VK → Prop) (gm : List PV → List PV → Option (List PV)) : Prop :=
  ∀ {hH H : Hp} {a : Addr} {vs ws : List V} {l xs l' : List PV} {Q : VK}, Same hH H → H a = some (.lst vs) → Reps K κ hH vs l → Reps K κ hH ws xs → gm l xs = some l' → (∀ us, Reps K κ hH us l' → Q .non (upd H a (.lst us))) → rm (.ref a) ws H Q
theorem R.mut {K : PySem.W.Frag} {G H : Hp} {A : Addr → Prop} {bo : Nat → Option (Addr × List V)} {own : Nat → Addr} {ρ : Sto} {σ : St} (r : R K κ G A bo own ρ σ H) {i : Nat} {l l' : List PV} {ws : List V} (h : ρ[i]? = some (.ow l)) (q : Reps K κ (hid A own ρ H) ws l') :
    ∃ own', R K κ G A bo own' (ρ.set i (.ow l')) σ (upd H (own i) (.lst ws)) := r.mutC (l := .l l) (l' := .l l') h q
theorem svt_mut {K : PySem.W.Frag} {rm : V → List V → Hp → VK → Prop} {gm : List PV → List PV → Option (List PV)} {fs : DenL} {ta : TA} (i : Nat) (hg : MutOk K κ rm gm)
    (ha : ∀ {G A bo own ρ σ H ps Q}, R K κ G A bo own ρ σ H → fs ρ = some ps → (∀ vs H', Same H H' → Reps K κ (hid A own ρ H') vs ps → Q vs H') → ta σ H Q) : SvT K κ fr (tDrop (tBM K "list" rm (tVar i) ta)) (sMut i gm fs) := fun {G A bo own ρ σ H fl D} r e k => by
  obtain ⟨xs, e1, e2⟩ := Option.bind_eq_some_iff.mp e
  obtain ⟨l, e3, e4⟩ := Option.bind_eq_some_iff.mp e2
  obtain ⟨l', e5, rfl⟩ := Option.map_eq_some_iff.mp e4
  have e3' := ownL_some e3
  obtain ⟨h1, h3, vs, h4, h5⟩ := r.ow i (.l l) e3'
  change H (own i) = some (.lst vs) at h4
  change Reps _ _ _ vs l at h5
  refine ⟨_, h1, .inl ⟨rfl, vs, SqL.of h4⟩, ha r e1 fun ws H2 s2 z2 => ?_⟩
  refine hg hide_full (s2 _ _ h4) (h5.mono (hide_same s2)) z2 e5 fun us z => ?_
  obtain ⟨own', r'⟩ := (r.mono s2).mut e3' z
  exact k _ _ _ r'
theorem svt_mut0 {K : PySem.W.Frag} {rm : V → List V → Hp → VK → Prop} {gm : List PV → List PV → Option (List PV)} (i : Nat) (hg : MutOk K κ rm gm) : SvT K κ fr (tDrop (tBM0 K "list" rm (tVar i))) (sMut i gm dNil) := fun {G A bo own ρ σ H fl D} r e k => by
  obtain ⟨xs, e1, e2⟩ := Option.bind_eq_some_iff.mp e
  obtain ⟨l, e3, e4⟩ := Option.bind_eq_some_iff.mp e2
  obtain ⟨l', e5, rfl⟩ := Option.map_eq_some_iff.mp e4
  have e3' := ownL_some e3
  obtain ⟨h1, h3, vs, h4, h5⟩ := r.ow i (.l l) e3'
  change H (own i) = some (.lst vs) at h4
  change Reps _ _ _ vs l at h5
  cases e1
  refine ⟨_, h1, .inl ⟨rfl, vs, SqL.of h4⟩, ?_⟩
  refine hg hide_full h4 h5 .nil e5 fun us z => ?_
  obtain ⟨own', r'⟩ := r.mut e3' z
  exact k _ _ _ r'
theorem ds_append {x : Str} {p' apos cpos : Pos} {ee : Expr} {fs : DenL} (i : Nat) (ha : DA X κ [ee] fs) (hN : X.N[i]? = some x := by rfl) (hv : Vis X.env.scope x := by first | exact Or.inl rfl | exact Or.inr (Or.inl rfl) | exact Or.inr (Or.inr rfl)) (hd : (x == ("__debug__" : Str)) = false := by decide)
    (hcd : (x == ("__classdict__" : Str)) = false := by decide) (hbase : attributeBase (.Name x p') "append" X.env (eval (.Name x p') X.env) = eval (.Name x p') X.env := by rfl)
    (hfew : ((backTo cpos (starEach [ee] X.env)).all (fun x => !x.1) && (backToKw cpos (keywordEach [] X.env)).all (fun x => x.1.isSome)
      && decide ([ee].length + ([] : List Keyword).length + (if ([] : List Keyword).isEmpty then 0 else 1) < 30)) = true := by rfl)
    (hs : swapsWith (.Call (.Attribute (.Name x p') "append" apos) [ee] [] cpos) none pos.line X.env = pure false := by rfl) (hline : (apos.endLine == cpos.line) = true := by rfl) (hst : starEach [ee] X.env = (false, eval ee X.env) :: starEach [] X.env := by rfl) :
    DS X κ fr (.Expr (.Call (.Attribute (.Name x p') "append" apos) [ee] [] cpos) pos) (sMut i mAppend fs) := by
  obtain ⟨ta, h1, h2⟩ := ha
  refine ⟨_, ps_expr (pe_bm PySem.F.plainAttrs_list PySem.F.slot_list_append PySem.F.type_list_append mt_append (pe_var hN hv hd hcd) h1 hbase hfew hline hst rfl) hs, svt_mut i ?_ h2⟩
  intro hH H a vs ws l xs l' Q s h3 h4 h5 h6 q
  unfold mAppend at h6
  split at h6
  · obtain ⟨h7, rfl⟩ := ite_some h6
    cases h5 with
    | cons z t =>
      cases t
      exact ⟨a, vs, _, rfl, rfl, h3, by rw [h4.length]; exact h7, q _ (h4.append (.cons z .nil))⟩
  · cases h6
theorem ds_clear {x : Str} {p' apos cpos : Pos} (i : Nat) (hN : X.N[i]? = some x := by rfl) (hv : Vis X.env.scope x := by first | exact Or.inl rfl | exact Or.inr (Or.inl rfl) | exact Or.inr (Or.inr rfl)) (hd : (x == ("__debug__" : Str)) = false := by decide)
    (hcd : (x == ("__classdict__" : Str)) = false := by decide) (hbase : attributeBase (.Name x p') "clear" X.env (eval (.Name x p') X.env) = eval (.Name x p') X.env := by rfl)
    (hs : swapsWith (.Call (.Attribute (.Name x p') "clear" apos) [] [] cpos) none pos.line X.env = pure false := by rfl) (hline : (apos.endLine == cpos.line) = true := by rfl) :
    DS X κ fr (.Expr (.Call (.Attribute (.Name x p') "clear" apos) [] [] cpos) pos) (sMut i mClear dNil) := by
  refine ⟨_, ps_expr (pe_bm0 PySem.F.plainAttrs_list PySem.F.slot_list_clear PySem.F.type_list_clear mt_clear (pe_var hN hv hd hcd) hbase hline) hs, svt_mut0 i ?_⟩
  intro hH H a vs ws l xs l' Q s h3 h4 h5 h6 q
  cases h5 with
  | cons _ _ => cases h6
  | nil =>
    cases h6
    exact ⟨a, vs, rfl, rfl, h3, q [] .nil⟩
end
def ItOk (K : PySem.W.Frag) (κ : Kl) (Gs : Hp) (A : Addr → Prop) (J : It) (ps : List PV) : Prop :=
  ∀ (i : Nat) (H2 : Hp), Same Gs H2 → (∀ p, ps[i]? = some p → J.go i H2 ∧ ∀ x H3, J.yld i H2 x H3 → Same H2 H3 ∧ ∀ B : Addr → Prop, (∀ b, B b → H2 b ≠ none) → Same (hide A Gs) (hide B H2) → Rep K κ (hide B H3) x p) ∧ (ps.length ≤ i → J.stop i H2)
def DI (X : Cx) (κ : Kl) (tg iter : Expr) (f : DenL) : Prop := ∃ wi, PI X tg iter wi ∧ ∀ {G A bo own ρ σ H ps Q}, R X.K κ G A bo own ρ σ H → f ρ = some ps → (∀ J H', Same H H' → ItOk X.K κ (vis own ρ H') A J ps → Q J H') → wi σ H Q
def DIB (X : Cx) (κ : Kl) (tg iter : Expr) (f : DenL) : Prop := ∃ wi, PI X tg iter wi ∧ ∀ {G A bo own ρ σ H ps Q}, R X.K κ G A bo own ρ σ H → f ρ = some ps → (∀ J H', Same H H' → ItOk X.K κ H' (hset A own ρ) J ps → Q J H') → wi σ H Q
def DG (X : Cx) (κ : Kl) (tg : Expr) (g : Tgt) : Prop := ∃ tt, PG X tg tt ∧ ∀ {G A bo own ρ σ H p v ρ' Q}, R X.K κ G A bo own ρ σ H → Rep X.K κ (hid A own ρ H) v p → g p ρ = some ρ' → (∀ own' σ', R X.K κ G A bo own' ρ' σ' H → Same (hid A own ρ H) (hid A own' ρ' H) → Q σ' H) → tt v σ H Q
section
variable {K : PySem.W.Frag} {κ : Kl} {Gs : Hp} {A : Addr → Prop} {a : Addr} {vs : List V} {l : List PV}
theorem itok_list (h : SL K Gs a vs) (q : Reps K κ (hide A Gs) vs l) : ItOk K κ Gs A (Itl K a) l := fun i H2 s => by
  have h2 : SqL K H2 a vs := (s.sl h).sq
  refine ⟨fun p e => ?_, fun hl => ⟨vs, h2, by rw [q.length]; exact hl⟩⟩
  obtain ⟨v, e1, r1⟩ := q.get e
  refine ⟨⟨vs, v, h2, e1⟩, fun x H3 ⟨y1, y2⟩ => ?_⟩
  subst y1
  have := y2 vs h2
  rw [e1] at this
  cases this
  exact ⟨Same.refl _, fun B _ sb => r1.mono sb⟩
theorem itok_tup (h : SqT K Gs a vs) (q : Reps K κ (hide A Gs) vs l) : ItOk K κ Gs A (Itt K a) l := fun i H2 s => by
  have h2 : SqT K H2 a vs := sameT s h
  refine ⟨fun p e => ?_, fun hl => ⟨vs, h2, by rw [q.length]; exact hl⟩⟩
  obtain ⟨v, e1, r1⟩ := q.get e
  refine ⟨⟨vs, v, h2, e1⟩, fun x H3 ⟨y1, y2⟩ => ?_⟩
  subst y1
  have := y2 vs h2
  rw [e1] at this
  cases this
  exact ⟨Same.refl _, fun B _ sb => r1.mono sb⟩
theorem rangeP_get {lo : Int} {n i : Nat} {p : PV} (h : (rangeP lo n)[i]? = some p) : i < n ∧ p = .int (lo + (i : Nat)) := by
  unfold rangeP at h
  rw [List.getElem?_map] at h
  obtain ⟨k, h1, rfl⟩ := Option.map_eq_some_iff.mp h
  obtain ⟨h2, h3⟩ := List.getElem?_eq_some_iff.mp h1
  rw [List.getElem_range] at h3
  subst h3
  exact ⟨by simpa using h2, rfl⟩
theorem itok_range {lo : Int} {n : Nat} : ItOk K κ Gs A (Itr lo n) (rangeP lo n) := fun i H2 s => by
  refine ⟨fun p e => ?_, fun hl => show n ≤ i by simpa [rangeP] using hl⟩
  obtain ⟨h1, rfl⟩ := rangeP_get e
  refine ⟨h1, fun x H3 ⟨y1, y2⟩ => ?_⟩
  subst y1 y2
  exact ⟨Same.refl _, fun B _ _ => .int _⟩
end
section
variable {X : Cx} {κ : Kl} {fr : Bool} {g : DenS} {e a b c tg iter : Expr} {f fa fb : Den} {ft : DenT} {pos : Pos} {fi : DenL} {gt gu : Tgt} {body : List Stmt}
theorem hid_vis {A : Addr → Prop} {own : Nat → Addr} {ρ : Sto} {H : Hp} : Same (hid A own ρ H) (vis own ρ H) := by
  rw [← hide_vis]
  exact hide_full
theorem di_list (h : DE X κ e f) : DI X κ tg e (nList f) := by
  obtain ⟨te, h1, h2⟩ := h
  refine ⟨_, pi_list h1, fun {G A bo own ρ σ H ps Q} r e q => ?_⟩
  obtain ⟨p, e1, e2⟩ := Option.bind_eq_some_iff.mp e
  refine h2 r e1 fun v H' s z => ?_
  cases p <;> first | (cases e2; done) | skip
  cases e2
  cases z with
  | lst q1 q2 => exact ⟨_, rfl, ⟨_, ((hide_full (A := hset A own ρ)).sl q1).sq⟩, q _ H' s (itok_list (hid_vis.sl q1) (by rw [hide_vis]; exact q2))⟩
theorem dib_list (h : DB X κ e f) : DIB X κ tg e (nList f) := by
  obtain ⟨te, h1, h2⟩ := h
  refine ⟨_, pi_list h1, fun {G A bo own ρ σ H ps Q} r e q => ?_⟩
  obtain ⟨p, e1, e2⟩ := Option.bind_eq_some_iff.mp e
  refine h2 r e1 fun v H' s z => ?_
  cases p <;> first | (cases e2; done) | skip
  cases e2
  obtain ⟨a, vs, rfl, q1, q2⟩ := z.lst hide_full
  exact ⟨_, rfl, ⟨_, q1.sq⟩, q _ H' s (itok_list q1 q2)⟩
theorem dib_tup (h : DB X κ e f) : DIB X κ tg e (nTup f) := by
  obtain ⟨te, h1, h2⟩ := h
  refine ⟨_, pi_tup h1, fun {G A bo own ρ σ H ps Q} r e q => ?_⟩
  obtain ⟨p, e1, e2⟩ := Option.bind_eq_some_iff.mp e
  refine h2 r e1 fun v H' s z => ?_
  cases p <;> first | (cases e2; done) | skip
  cases e2
  obtain ⟨a, vs, rfl, q1, q2⟩ := z.tup hide_full
  exact ⟨_, rfl, ⟨_, q1⟩, q _ H' s (itok_tup q1 q2)⟩
theorem evr1 {K : PySem.W.Frag} {te : TE} (h2 : EvB K κ te f) {G A bo own ρ σ H ps} {Q : It → Hp → Prop} (r : R K κ G A bo own ρ σ H) (e : nRng1 f ρ = some ps) (q : ∀ n H', Same H H' → ps = rangeP 0 n → Q (Itr 0 n) H') : iRng1 (tCons te tNil) σ H Q := by
  obtain ⟨p, e1, e2⟩ := Option.bind_eq_some_iff.mp e
  obtain ⟨j, e3, e4⟩ := Option.bind_eq_some_iff.mp e2
  obtain ⟨h3, h4⟩ := ite_some e4
  simp only [rngOk, Bool.and_eq_true, decide_eq_true_eq] at h3
  refine h2 r e1 fun v H' s z => ?_
  cases p <;> first | (cases e3; done) | skip
  cases e3
  exact ⟨_, by rw [z.int], h3.1, h3.2, q _ H' s h4.symm⟩
theorem di_rng1 {p pos : Pos} (h : DB X κ a f) (hm : X.mg "range" = none) (hg : Gl X "range" := by rfl) (hs : starEach [a] X.env = [(false, eval a X.env)] := by rfl) : DI X κ tg (.Call (.Name "range" p) [a] [] pos) (nRng1 f) := by
  obtain ⟨te, h1, h2⟩ := h
  exact ⟨_, pi_range1 hg hm (pa_cons h1 pa_nil hs) hs, fun {G A bo own ρ σ H ps Q} r e q => evr1 h2 r e fun n H' s e' => q _ H' s (by rw [e']; exact itok_range)⟩
theorem dg_name (i : Nat) {x : Str} (hN : X.N.Nodup) (hi : X.N[i]? = some x := by rfl) (hx : Loc X.env.scope x := by first | exact Or.inl rfl | exact Or.inr rfl) (hf : X.fn x = true ∨ X.env.scope.names.lookup x = some .local := by first | exact .inl rfl | exact .inr rfl) : DG X κ (.Name x pos) (gtName i) :=
  ⟨_, pg_name hN hi hx hf, fun {G A bo own ρ σ H p v ρ' Q} r z e q => by cases e; exact q _ _ (r.set z) hid_set⟩
end
end L2.D
set_option Elab.async false
set_option linter.all false
set_option maxRecDepth 100000
set_option maxHeartbeats 1000000
namespace L2.D
open PySem PySem.Spec PyProof.Rows
open Classical
section
variable {K : PySem.W.Frag} {κ : Kl} {fr : Bool} {gb : DenS} {ft : DenT} {gt : Tgt} {fi : DenL}
theorem forL_cons {g : Tgt} {body : DenS} {x : PV} {xs : List PV} {ρ : Sto} {fl : Fl} (h : forL g body (x :: xs) ρ = some fl) : ∃ ρ1 f, g x ρ = some ρ1 ∧ body ρ1 = some f ∧ (match f with
    | .nx ρ' => forL g body xs ρ'
    | .ct ρ' => forL g body xs ρ'
    | .bk ρ' => some (.nx ρ')
    | .rt p => some (.rt p)) = some fl := by
  unfold forL at h
  obtain ⟨ρ1, e1, e2⟩ := Option.bind_eq_some_iff.mp h
  obtain ⟨f, e3, e4⟩ := Option.bind_eq_some_iff.mp e2
  exact ⟨ρ1, f, e1, e3, e4⟩
theorem loop_core {J : It} {ps : List PV} {G : Hp} {A : Addr → Prop} {bo : Nat → Option (Addr × List V)} {tg : TG} {tb : TS} {D : Ends} {own : Nat → Addr} {ρ : Sto} {σ : St} {H : Hp} {fl : Fl}
    (hI : ItOk K κ G A J ps) (hg : ∀ {own ρ σ H p v ρ' Q}, R K κ G A bo own ρ σ H → Rep K κ (hid A own ρ H) v p → gt p ρ = some ρ' → (∀ own' σ', R K κ G A bo own' ρ' σ' H → Same (hid A own ρ H) (hid A own' ρ' H) → Q σ' H) → tg v σ H Q)
    (hb : SvT K κ fr tb gb) (r : R K κ G A bo own ρ σ H) (e : forL gt gb ps ρ = some fl) (k : Cont K κ fr G A bo D fl) :
    ∃ W : Nat → Nat → St → Hp → Prop, (∃ m, W 0 m σ H) ∧ ∀ i m σ H, W i m σ H →
      (J.stop i H ∧ D.nx σ H) ∨ (J.go i H ∧ ∃ N : St → Hp → Prop, (∀ σ' H', N σ' H' → ∃ m', m' < m ∧ W (i + 1) m' σ' H') ∧ ∀ x H', J.yld i H x H' → tg x σ H' fun σ2 H2 => tb { D with nx := N, ct := N, bk := D.nx } σ2 H2) := by
  refine ⟨fun i m σ H => m = ps.length - i ∧ i ≤ ps.length ∧ ∃ own ρ, R K κ G A bo own ρ σ H ∧ forL gt gb (ps.drop i) ρ = some fl, ⟨ps.length, by simp, Nat.zero_le _, own, ρ, r, by simpa using e⟩, ?_⟩
  rintro i m σ H ⟨rfl, hi, own, ρ, r, e⟩
  obtain ⟨h1, h2⟩ := hI i H r.same
  by_cases hlt : i < ps.length
  · rw [List.drop_eq_getElem_cons hlt] at e
    obtain ⟨ρ1, f, e1, e3, e4⟩ := forL_cons e
    obtain ⟨h3, h4⟩ := h1 ps[i] (List.getElem?_eq_getElem hlt)
    refine .inr ⟨h3, fun σ' H' => i + 1 ≤ ps.length ∧ ∃ own ρ, R K κ G A bo own ρ σ' H' ∧ forL gt gb (ps.drop (i + 1)) ρ = some fl, fun σ' H' ⟨q0, q⟩ => ⟨ps.length - (i + 1), by omega, rfl, q0, q⟩, fun x H' y => ?_⟩
    obtain ⟨s, q⟩ := h4 x H' y
    have r1 := r.mono s
    refine hg r1 (q (hset A own ρ) (fun b hb => r.alH hb) r.visSame) e1 fun own' σ' r2 _ => ?_
    refine hb r2 e3 ?_
    cases f with
    | nx ρ' => exact fun own2 σ2 H2 r3 => ⟨hlt, own2, ρ', r3, e4⟩
    | ct ρ' => exact fun own2 σ2 H2 r3 => ⟨hlt, own2, ρ', r3, e4⟩
    | bk ρ' => cases e4; exact k
    | rt p => cases e4; exact k
  · have hn : ps.drop i = [] := List.drop_eq_nil_of_le (by omega)
    rw [hn] at e
    cases e
    exact .inl ⟨h2 (by omega), k own σ H r⟩
theorem Cont.small {G G' : Hp} {A : Addr → Prop} {bo : Nat → Option (Addr × List V)} {D : Ends} {fl : Fl} (k : Cont K κ fr G A bo D fl) (s : Same G G') (al : ∀ b, A b → G b ≠ none) (bg : ∀ i a vs, bo i = some (a, vs) → G a = some (.lst vs)) : Cont K κ fr G' A bo D fl := by
  cases fl with
  | nx ρ' => exact fun own' σ' H' r => k own' σ' H' (r.small s al bg)
  | bk ρ' => exact fun own' σ' H' r => k own' σ' H' (r.small s al bg)
  | ct ρ' => exact fun own' σ' H' r => k own' σ' H' (r.small s al bg)
  | rt p =>
    intro v H' s' q
    refine k v H' (s.trans s') ?_
    unfold RR at q ⊢
    split
    · rename_i h
      rw [if_pos h] at q
      exact ORg q s fun b z => z
    · rename_i h
      rw [if_neg h] at q
      exact q
end
section
variable {X : Cx} {κ : Kl} {fr : Bool} {g : DenS} {e a b c tg iter : Expr} {f fa fb : Den} {ft : DenT} {pos : Pos} {fi : DenL} {gt gu : Tgt} {body : List Stmt}
theorem ds_for (hi : DI X κ tg iter fi) (hg : DG X κ tg gt) (hb : DSs X κ fr body g) (hp : PassesOwn (model X.prog X.w) X.A X.env X.xe := by exact PassesOwn.never) (hc : X.calm = true := by rfl) (hs : ∀ x, foldedSetIterable iter X.env x = pure x := by intro _; rfl) : DS X κ fr (.For tg iter body [] pos) (sFor fi gt g) := by
  obtain ⟨wi, h1, h2⟩ := hi
  obtain ⟨tt, h3, h4⟩ := hg
  obtain ⟨tb, h5, h6⟩ := hb
  refine ⟨_, ps_for hp hc h1 h3 h5 hs, fun {G A bo own ρ σ H fl D} r e k => ?_⟩
  obtain ⟨ps, e1, e2⟩ := Option.bind_eq_some_iff.mp e
  refine h2 r e1 fun J H' s hI => ?_
  have r1 := r.mono s
  exact loop_core hI h4 h6 r1.big e2 (k.small r1.gv r1.al r1.bg)
theorem ds_while (n : Nat) (hc : DT X κ c ft) (hb : DSs X κ fr body g) (hp : PassesOwn (model X.prog X.w) X.A X.env X.xe := by exact PassesOwn.never) : DS X κ fr (.While c body [] pos) (whileN ft g n) := by
  obtain ⟨tc, h1, h2⟩ := hc
  obtain ⟨tb, h3, h4⟩ := hb
  refine ⟨_, ps_while hp h1 h3, fun {G A bo own ρ σ H fl D} r e k => ?_⟩
  refine ⟨fun m σ H => ∃ own ρ, R X.K κ G A bo own ρ σ H ∧ whileN ft g m ρ = some fl, ⟨n, own, ρ, r, e⟩, ?_⟩
  rintro m σ H ⟨own, ρ, r, e⟩
  cases m with
  | zero => cases e
  | succ m =>
    unfold whileN at e
    obtain ⟨c, e1, e2⟩ := Option.bind_eq_some_iff.mp e
    refine h2 r e1 fun H1 s1 => ?_
    cases c with
    | false =>
      cases e2
      exact k own σ H1 (r.mono s1)
    | true =>
      obtain ⟨f, e3, e4⟩ := Option.bind_eq_some_iff.mp e2
      refine ⟨fun σ' H' => ∃ own ρ, R X.K κ G A bo own ρ σ' H' ∧ whileN ft g m ρ = some fl, fun σ' H' q => ⟨m, Nat.lt_succ_self m, q⟩, ?_⟩
      refine h4 (r.mono s1) e3 ?_
      cases f with
      | nx ρ' => exact fun own2 σ2 H2 r3 => ⟨own2, ρ', r3, e4⟩
      | ct ρ' => exact fun own2 σ2 H2 r3 => ⟨own2, ρ', r3, e4⟩
      | bk ρ' => cases e4; exact k
      | rt p => cases e4; exact k
end
end L2.D
set_option Elab.async false
set_option linter.all false
set_option maxRecDepth 100000
set_option maxHeartbeats 1000000
namespace L2.D
open PySem PySem.Spec PyProof.Rows
open Classical
def teS (K : PySem.W.Frag) (κ : Kl) (f : Den) : TE := fun σ H Q => ∃ G A bo own ρ p, R K κ G A bo own ρ σ H ∧ f ρ = some p ∧ ∀ v H', Same H H' → Rep K κ (hid A own ρ H') v p → Q v H'
def ttS (K : PySem.W.Frag) (κ : Kl) (f : DenT) : TT := fun σ H Q => ∃ G A bo own ρ b, R K κ G A bo own ρ σ H ∧ f ρ = some b ∧ ∀ H', Same H H' → Q b H'
theorem DE.pe {X : Cx} {κ : Kl} {e : Expr} {f : Den} (h : DE X κ e f) : PE X e (teS X.K κ f) := fun pins s σ H Q I ⟨_, _, _, _, _, _, r, e, q⟩ => let ⟨_, h1, h2⟩ := h; h1 pins s σ H Q I (h2 r e q)
theorem DT.pt {X : Cx} {κ : Kl} {e : Expr} {f : DenT} (h : DT X κ e f) : PT X e (ttS X.K κ f) := fun pins s σ H Q I ⟨_, _, _, _, _, _, r, e, q⟩ => let ⟨_, h1, h2⟩ := h; h1 pins s σ H Q I (h2 r e q)
def shN {α : Type} (f : Nat → α) (d : α) : Nat → α
  | 0 => d
  | i + 1 => f i
section
variable {K : PySem.W.Frag} {κ : Kl} {G H : Hp} {A : Addr → Prop} {bo : Nat → Option (Addr × List V)} {own : Nat → Addr} {ρ : Sto} {σ : St} {v : V} {p : PV}
theorem hset_cons : hset A (shN own 0) (.sh p :: ρ) = hset A own ρ := by
  funext b
  refine propext ⟨fun z => ?_, fun z => ?_⟩
  · rcases z with z | ⟨j, m, z1, z2⟩
    · exact .inl z
    · cases j with
      | zero => simp at z1
      | succ j => exact .inr ⟨j, m, by simpa using z1, z2⟩
  · rcases z with z | ⟨j, m, z1, z2⟩
    · exact .inl z
    · exact .inr ⟨j + 1, m, by simpa using z1, z2⟩
theorem R.cons (r : R K κ G A bo own ρ σ H) (z : Rep K κ (hid A own ρ H) v p) : R K κ G A (shN bo none) (shN own 0) (.sh p :: ρ) (some v :: σ) H where
  al := r.al
  bg := fun i a vs e => by
    cases i with
    | zero => cases e
    | succ i => exact r.bg i a vs e
  same := r.same
  sh := fun i q e => by
    rw [hid, hset_cons]
    cases i with
    | zero =>
      simp at e
      subst e
      exact ⟨v, rfl, z⟩
    | succ i => exact r.sh i q (by simpa using e)
  ow := fun i l e => by
    rw [hid, hset_cons]
    cases i with
    | zero => simp at e
    | succ i => exact r.ow i l (by simpa using e)
  inj := fun i j l m e f q => by
    cases i with
    | zero => simp at e
    | succ i =>
      cases j with
      | zero => simp at f
      | succ j => rw [r.inj i j l m (by simpa using e) (by simpa using f) q]
  bw := fun i l e => by
    rw [hid, hset_cons]
    cases i with
    | zero => simp at e
    | succ i => exact r.bw i l (by simpa using e)
  len := by rw [List.length_cons, List.length_cons, r.len]
theorem evo_comp {wi : TI} {fi : DenL} {c : DenT} {e : Den} (hi : ∀ {G A bo own ρ σ H ps Q}, R K κ G A bo own ρ σ H → fi ρ = some ps → (∀ J H', Same H H' → ItOk K κ H' (hset A own ρ) J ps → Q J H') → wi σ H Q) :
    EvO K κ (tComp wi (ttS K κ c) (teS K κ e)) (dComp fi c e) := fun {G A bo own ρ σ H p Q} r e0 q => by
  obtain ⟨ps, e1, e2⟩ := Option.bind_eq_some_iff.mp e0
  have h0 : ps.length ≤ sizeLine ∧ (compL c e ρ ps).map PV.lst = some p := by
    split at e2
    · exact ⟨by assumption, e2⟩
    · cases e2
  obtain ⟨zs, e3, rfl⟩ := Option.map_eq_some_iff.mp h0.2
  refine hi r e1 fun J H1 s1 hI => ?_
  refine ⟨fun i m acc H2 => m = ps.length - i ∧ i ≤ ps.length ∧ Same H1 H2 ∧ acc.length ≤ i ∧ ∃ out rest, Reps K κ (hid A own ρ H2) acc out ∧ compL c e ρ (ps.drop i) = some rest ∧ out ++ rest = zs,
    ⟨ps.length, by simp, Nat.zero_le _, Same.refl _, Nat.zero_le _, [], zs, .nil, by simpa using e3, rfl⟩, ?_⟩
  rintro i m acc H2 ⟨rfl, hi', s2, ha, out, rest, q1, q2, q3⟩
  obtain ⟨h1, h2⟩ := hI i H2 s2
  have s12 := s1.trans s2
  have r2 := r.mono s12
  by_cases hlt : i < ps.length
  · rw [List.drop_eq_getElem_cons hlt] at q2
    obtain ⟨h3, h4⟩ := h1 ps[i] (List.getElem?_eq_getElem hlt)
    refine .inr ⟨h3, by omega, fun y H3 hy => ?_⟩
    obtain ⟨s3, q4⟩ := h4 y H3 hy
    have rep := q4 (hset A own ρ) (fun b hb => r2.alH hb) (hide_same s2)
    have r3 := (r2.mono s3).cons rep
    unfold compL at q2
    obtain ⟨b, e4, e5⟩ := Option.bind_eq_some_iff.mp q2
    refine ⟨_, _, _, _, _, _, r3, e4, fun H4 s4 => ?_⟩
    have r4 := r3.mono s4
    cases b with
    | true =>
      dsimp only
      rw [if_pos rfl] at e5 ⊢
      obtain ⟨z, e6, e7⟩ := Option.bind_eq_some_iff.mp e5
      obtain ⟨ws, e8, rfl⟩ := Option.map_eq_some_iff.mp e7
      refine ⟨_, _, _, _, _, _, r4, e6, fun v H5 s5 q5 => ?_⟩
      rw [hid, hset_cons] at q5
      refine ⟨ps.length - (i + 1), by omega, rfl, hlt, ((s2.trans s3).trans s4).trans s5, by simp; omega, out ++ [z], ws, ?_, e8, by rw [← q3]; simp⟩
      exact (q1.mono (hide_same ((s3.trans s4).trans s5))).append (.cons q5 .nil)
    | false =>
      dsimp only
      rw [if_neg Bool.false_ne_true] at e5 ⊢
      exact ⟨ps.length - (i + 1), by omega, rfl, hlt, (s2.trans s3).trans s4, by omega, out, rest, q1.mono (hide_same (s3.trans s4)), e5, q3⟩
  · have hn : ps.drop i = [] := List.drop_eq_nil_of_le (by omega)
    rw [hn] at q2
    cases q2
    rw [List.append_nil] at q3
    subst q3
    refine .inl ⟨h2 (by omega), fun p hp => q _ _ (s12.trans (same_upd hp)) ?_⟩
    obtain ⟨a, ws, l, w1, w2, w3, w4⟩ := r2.newO hp q1
    refine ⟨a, ws, l, w1, w2, ?_, w4⟩
    cases w1
    exact s12.free hp
end
section
variable {X : Cx} {κ : Kl} {fr : Bool} {sc : Scope} {x : Str} {px pos : Pos} {elt iter c : Expr} {fi : DenL} {ft : DenT} {f : Den}
theorem do_comp (hi : DIB X κ (.Name x px) iter fi) (osc : Scope) (N0 ys : List Str) (he : ∀ ex C s H, DE (X.blk sc x ys ex C s H) κ elt f) (hosc : X.env.scope = osc := by rfl) (hN0 : X.N = N0 := by rfl) (hcs : compOk osc N0 sc x ys = true := by decide +kernel) (hc : X.calm = true := by rfl)
    (hs : ∀ x, foldedSetIterable iter X.env x = pure x := by intro _; rfl) : DO X κ (.ListComp elt [⟨.Name x px, iter, [], 0⟩] sc pos) (dComp fi tTrue f) := by
  obtain ⟨wi, h1, h2⟩ := hi
  refine ⟨_, pe_comp h1 ys (tt := ttS X.K κ tTrue) (te := teS X.K κ f) (fun ex C s H => ?_) (fun ex C s H => (he ex C s H).pe) (by rw [hosc, hN0]; exact hcs) hc hs, evo_comp h2⟩
  intro pins s σ H Q I ⟨_, _, _, _, _, _, r, e, q⟩
  cases e
  exact pifs_nil pins s σ H Q I (q _ (Same.refl _))
theorem do_compIf (hi : DIB X κ (.Name x px) iter fi) (osc : Scope) (N0 ys : List Str) (ht : ∀ ex C s H, DT (X.blk sc x ys ex C s H) κ c ft) (he : ∀ ex C s H, DE (X.blk sc x ys ex C s H) κ elt f) (hosc : X.env.scope = osc := by rfl) (hN0 : X.N = N0 := by rfl) (hcs : compOk osc N0 sc x ys = true := by decide +kernel) (hc : X.calm = true := by rfl)
    (hs : ∀ x, foldedSetIterable iter X.env x = pure x := by intro _; rfl) : DO X κ (.ListComp elt [⟨.Name x px, iter, [c], 0⟩] sc pos) (dComp fi ft f) := by
  obtain ⟨wi, h1, h2⟩ := hi
  exact ⟨_, pe_comp h1 ys (tt := ttS X.K κ ft) (te := teS X.K κ f) (fun ex C s H => pifs_one (ht ex C s H).pt) (fun ex C s H => (he ex C s H).pe) (by rw [hosc, hN0]; exact hcs) hc hs, evo_comp h2⟩
theorem ds_setCIf (i : Nat) {y : Str} {py spos : Pos} (hN : X.N.Nodup) (hi : DIB X κ (.Name x px) iter fi) (osc : Scope) (N0 ys : List Str) (ht : ∀ ex C s H, DT (X.blk sc x ys ex C s H) κ c ft) (he : ∀ ex C s H, DE (X.blk sc x ys ex C s H) κ elt f) (hiy : X.N[i]? = some y := by rfl) (hy : X.env.scope.names.lookup y = some .local := by rfl) (hosc : X.env.scope = osc := by rfl) (hN0 : X.N = N0 := by rfl) (hcs : compOk osc N0 sc x ys = true := by decide +kernel) (hc : X.calm = true := by rfl)
    (hs : ∀ x, foldedSetIterable iter X.env x = pure x := by intro _; rfl) (hsw : swapsWith (.ListComp elt [⟨.Name x px, iter, [c], 0⟩] sc pos) (some (.Name y py)) spos.line X.env = pure true := by rfl) :
    DS X κ fr (.Assign [.Name y py] (.ListComp elt [⟨.Name x px, iter, [c], 0⟩] sc pos) spos) (sSet i (dComp fi ft f)) := by
  obtain ⟨wi, h1, h2⟩ := hi
  refine ⟨_, ps_setC hN hiy hy h1 ys (tt := ttS X.K κ ft) (te := teS X.K κ f) (fun ex C s H => pifs_one (ht ex C s H).pt) (fun ex C s H => (he ex C s H).pe) (by rw [hosc, hN0]; exact hcs) hc hs hsw, fun {G A bo own ρ σ H fl D} r e k => ?_⟩
  obtain ⟨p, e1, rfl⟩ := Option.map_eq_some_iff.mp e
  exact evo_comp h2 r e1 fun v H' s z => k _ _ _ ((r.mono s).set (z.rep r))
end
def spD (K : PySem.W.Frag) (κ : Kl) (fr : Bool) (F : List PV → Option PV) : Sp := fun vs H Q _ => ∃ (A : Addr → Prop) (ps : List PV) (p : PV), (∀ b, A b → H b ≠ none) ∧ Reps K κ (hide A H) vs ps ∧ F ps = some p ∧ ∀ v H', Same H H' → RR fr K κ A H H' v p → Q v H'
section
variable {X : Cx} {κ : Kl} {fr : Bool} {k : Nat} {f : Addr} {fd : FuncData} {ps : List Str} {F : List PV → Option PV} {x : Str} {p pos : Pos} {e : Expr} {es : List Expr} {fs : DenL}
theorem de_call (FO : FnOk X.prog X.w X.K X.mg X.base CX0 k f fd ps (spD X.K κ false F)) (hr : Room k X.A) (hm : X.mg x = some (.ref f)) (hk : PySem.W.keepIn X.K (.ref f) = true) (hb : Binds X.K fd ps []) (ha : DA X κ (e :: es) fs) (hg : Gl X x := by rfl) (hdb : (x == ("__debug__" : Str)) = false := by decide)
    (he : starEach (e :: es) X.env = (false, eval e X.env) :: starEach es X.env := by rfl) (hpl : (backTo pos (starEach es X.env)).any (·.1) = false := by rfl) : DE X κ (.Call (.Name x p) (e :: es) [] pos) (dCall F fs) := by
  obtain ⟨ta, h1, h2⟩ := ha
  refine ⟨_, pe_call FO hr hg hm hk hb .nil pass0 h1 hdb he hpl, fun {G A bo own ρ σ H p Q} r e q => ?_⟩
  obtain ⟨xs, e1, e2⟩ := Option.bind_eq_some_iff.mp e
  refine h2 r e1 fun vs H1 s1 z1 => ?_
  rw [List.append_nil]
  exact ⟨hset A own ρ, xs, p, fun b hb => (r.mono s1).alH hb, z1, e2, fun v H' s z => q v H' (s1.trans s) z⟩
theorem do_call (FO : FnOk X.prog X.w X.K X.mg X.base CX0 k f fd ps (spD X.K κ true F)) (hr : Room k X.A) (hm : X.mg x = some (.ref f)) (hk : PySem.W.keepIn X.K (.ref f) = true) (hb : Binds X.K fd ps []) (ha : DA X κ (e :: es) fs) (hg : Gl X x := by rfl) (hdb : (x == ("__debug__" : Str)) = false := by decide)
    (he : starEach (e :: es) X.env = (false, eval e X.env) :: starEach es X.env := by rfl) (hpl : (backTo pos (starEach es X.env)).any (·.1) = false := by rfl) : DO X κ (.Call (.Name x p) (e :: es) [] pos) (dCall F fs) := by
  obtain ⟨ta, h1, h2⟩ := ha
  refine ⟨_, pe_call FO hr hg hm hk hb .nil pass0 h1 hdb he hpl, fun {G A bo own ρ σ H p Q} r e q => ?_⟩
  obtain ⟨xs, e1, e2⟩ := Option.bind_eq_some_iff.mp e
  refine h2 r e1 fun vs H1 s1 z1 => ?_
  rw [List.append_nil]
  exact ⟨hset A own ρ, xs, p, fun b hb => (r.mono s1).alH hb, z1, e2, fun v H' s z => q v H' (s1.trans s) (ORg z s1 fun b w => w)⟩
end
section
variable {P : Program} {w : World} {K : PySem.W.Frag} {mg : Str → Option Value} {base : Heap} {κ : Kl} {fr : Bool}
theorem startP_get {n : Nat} {ps : List PV} {i : Nat} {s : Slot} (h : (startP n ps)[i]? = some s) : (∃ p, ps[i]? = some p ∧ s = .sh p) ∨ s = .un := by
  unfold startP at h
  rw [List.getElem?_append] at h
  split at h
  · rw [List.getElem?_map] at h
    obtain ⟨p, h1, h2⟩ := Option.map_eq_some_iff.mp h
    exact .inl ⟨p, h1, h2.symm⟩
  · rw [List.getElem?_replicate] at h
    split at h
    · exact .inr (Option.some.inj h).symm
    · cases h
theorem R.entry {A : Addr → Prop} {H : Hp} {N : List Str} {vs : List V} {ps : List PV} (al : ∀ b, A b → H b ≠ none) (h : Reps K κ (hide A H) vs ps) : R K κ H A (fun _ => none) (fun _ => 0) (startP N.length ps) (start N vs) H := by
  have no : ∀ {i : Nat} {l : Cn}, (startP N.length ps)[i]? ≠ some (.own l) := fun {i l} e => by
    rcases startP_get e with ⟨p, _, z⟩ | z <;> cases z
  have he : hset A (fun _ => 0) (startP N.length ps) = A := by
    funext b
    refine propext ⟨fun z => ?_, .inl⟩
    rcases z with z | ⟨j, m, z1, z2⟩
    · exact z
    · exact absurd z1 no
  refine ⟨al, fun i a vs e => (by cases e), fun _ _ z => z, fun i p e => ?_, fun i l e => absurd e no, fun i j l m e => absurd e no, fun i l e => ?_, ?_⟩
  · rcases startP_get e with ⟨p', h1, z⟩ | z
    · cases z
      obtain ⟨v, h2, h3⟩ := h.get h1
      refine ⟨v, ?_, by rw [hid, he]; exact h3⟩
      unfold start
      rw [List.getElem?_append_left (by rw [List.length_map]; exact (List.getElem?_eq_some_iff.mp h2).1), List.getElem?_map, h2]
      rfl
    · cases z
  · rcases startP_get e with ⟨p, _, z⟩ | z <;> cases z
  · unfold start startP
    simp [h.length]
theorem fun_den {x qual : Str} {st : Stmt} {f : Addr} {fd : FuncData} {N ps : List Str} {k : Nat} {g : DenS} (F : Fun K x qual st f fd) (S : FnScope N ps (defScope st))
    (hb : ∀ (cdv : Value) (A : Around) (outer : List Env) (s : Shared) (H : Hp) (E : XK), Room k (A.deeper (envOfC qual (defScope st) s.heap.objs.size f cdv)) → DSs (cxOf CX0 P w K mg base N qual (defScope st) f cdv A outer s H E).nox κ fr (defBody st) g) :
    FnOk P w K mg base CX0 (k + 1) f fd ps (spD K κ fr (fn fr N.length ps.length g)) := by
  refine F.ok S (fun vs H Q E h => ?_) (fun cdv A outer s H vs Q E hr h => ?_)
  · obtain ⟨A, qs, p, _, h1, h2, _⟩ := h
    unfold fn at h2
    split at h2
    · rw [h1.length]
      assumption
    · cases h2
  · obtain ⟨A', qs, p, al, h1, h2, q⟩ := h
    obtain ⟨ts, a1, a2⟩ := hb cdv A outer s H E hr
    refine ⟨ts, a1, ?_⟩
    have h3 : (g (startP N.length qs)).bind (endP fr) = some p := by
      unfold fn at h2
      split at h2
      · exact h2
      · cases h2
    obtain ⟨fl, e1, e2⟩ := Option.bind_eq_some_iff.mp h3
    refine a2 (R.entry al h1) e1 ?_
    cases fl with
    | rt p' => cases e2; exact q
    | nx ρ' =>
      cases fr with
      | true => cases e2
      | false =>
        cases e2
        exact fun own' σ' H' r' => q _ _ r'.same .non
    | bk ρ' => cases e2
    | ct ρ' => cases e2
end
end L2.D
set_option Elab.async false
set_option linter.all false
set_option maxRecDepth 100000
set_option maxHeartbeats 1000000
set_option Elab.async false
set_option linter.all false
set_option maxRecDepth 100000
set_option maxHeartbeats 1000000
namespace L2.D
open PySem PySem.Spec PyProof.Rows PySem.SeqAt
open Classical
section
variable {X : Cx} {κ : Kl} {fr : Bool} {e a b c : Expr} {f fa fb fc : Den} {p pos : Pos}
theorem flats {K : PySem.W.Frag} {H : Hp} : ∀ {vs : List V} {l : List PV}, Reps K κ H vs l → l.all flat = true → vs.all flatV = true
  | _, _, .nil, _ => rfl
  | _, _, .cons r t, h => by
    rw [List.all_cons, Bool.and_eq_true] at h ⊢
    refine ⟨?_, flats t h.2⟩
    cases r <;> simp_all [flat, flatV]
theorem eqF_V {K : PySem.W.Frag} {H H' : Hp} {v w : V} {p q : PV} (r1 : Rep K κ H v p) (r2 : Rep K κ H' w q) (f1 : flat p = true) (f2 : flat q = true) : eqF p q = eqV v w := by
  cases r1 <;> cases r2 <;> simp_all [flat, eqF, eqV]
theorem inP_V {K : PySem.W.Frag} {H H' : Hp} {v : V} {p : PV} (r : Rep K κ H v p) (f : flat p = true) : ∀ {vs : List V} {l : List PV}, Reps K κ H' vs l → l.all flat = true → inP p l = inV v vs
  | _, _, .nil, _ => rfl
  | _, _, .cons r1 t, h => by
    rw [List.all_cons, Bool.and_eq_true] at h
    have ih := inP_V r f t h.2
    unfold inP inV at ih ⊢
    rw [List.any_cons, List.any_cons, ih, eqF_V r1 r h.1 f]
theorem in_core {neg : Bool} {K : PySem.W.Frag} {hH H' : Hp} {x y : V} {p1 p2 p : PV} {Q : VK} (b1 : BR K κ hH H' x p1) (b2 : BR K κ hH H' y p2) (s : Same hH H') (e : (if neg then gNotIn p1 p2 else gIn p1 p2) = some p) (q : ∀ b, p = .bl b → Q (.bl b) H') : rIn K neg x y H' Q := by
  have go : ∀ (l : List PV) (vs : List V) (a : Addr), y = .ref a → (SqL K H' a vs ∨ SqT K H' a vs) → Reps K κ hH vs l → (if (flat p1 && l.all flat) = true then some (PV.bl (if neg then !inP p1 l else inP p1 l)) else none) = some p → rIn K neg x y H' Q := by
    intro l vs a hy hs w e
    obtain ⟨h1, h2⟩ := ite_some e
    rw [Bool.and_eq_true] at h1
    have rx := b1.full s
    refine ⟨a, vs, hy, hs, ?_, flats w h1.2, ?_⟩
    · cases rx <;> simp_all [flat, flatV]
    · rw [inP_V rx h1.1 w h1.2] at h2
      exact q _ h2.symm
  cases p2 with
  | lst l =>
    obtain ⟨a, vs, rfl, q1, q2⟩ := b2.lst s
    exact go l vs a rfl (.inl q1.sq) q2 (by cases neg <;> exact e)
  | tup l =>
    obtain ⟨a, vs, rfl, q1, q2⟩ := b2.tup s
    exact go l vs a rfl (.inr q1) q2 (by cases neg <;> exact e)
  | _ => cases neg <;> cases e
theorem dc_in (ha : DB X κ a fa) (hb : DB X κ b fb) : DC X κ .In a b (dBin gIn fa fb) := by
  obtain ⟨ta, h1, h2⟩ := ha
  obtain ⟨tb, h3, h4⟩ := hb
  refine ⟨_, _, _, op_in_seq, h1, h3, fun {G A bo own ρ σ H p Q} r e q => ?_⟩
  refine evb2 h2 h4 r e fun x y p1 p2 H' s r' b1 b2 e' => ?_
  exact in_core (neg := false) b1 b2 hide_full e' fun b z => q _ H' s (by rw [z]; exact .bl _)
theorem dc_notIn (ha : DB X κ a fa) (hb : DB X κ b fb) : DC X κ .NotIn a b (dBin gNotIn fa fb) := by
  obtain ⟨ta, h1, h2⟩ := ha
  obtain ⟨tb, h3, h4⟩ := hb
  refine ⟨_, _, _, op_notIn_seq, h1, h3, fun {G A bo own ρ σ H p Q} r e q => ?_⟩
  refine evb2 h2 h4 r e fun x y p1 p2 H' s r' b1 b2 e' => ?_
  exact in_core (neg := true) b1 b2 hide_full e' fun b z => q _ H' s (by rw [z]; exact .bl _)
theorem de_len (ha : DB X κ a fa) (hm : X.mg "len" = none) (hg : Gl X "len" := by rfl) (hs : starEach [a] X.env = (false, eval a X.env) :: starEach [] X.env := by rfl) : DE X κ (.Call (.Name "len" p) [a] [] pos) (dUn gLen fa) := by
  obtain ⟨ta, h1, h2⟩ := ha
  refine ⟨_, pe_callB (call_len_seq.or call_len_str) hg hm PySem.boot_len (pa_cons h1 pa_nil hs) (he := hs), fun {G A bo own ρ σ H p Q} r e q => ?_⟩
  obtain ⟨p1, e1, e2⟩ := Option.bind_eq_some_iff.mp e
  refine h2 r e1 fun x H1 s1 b1 => ?_
  cases p1 <;> first | (cases e2; done) | skip
  · obtain ⟨z1, rfl⟩ := ite_some e2
    exact .inr ⟨_, by rw [b1.str], z1, q _ H1 s1 (.int _)⟩
  · cases e2
    obtain ⟨a, vs, rfl, q1, q2⟩ := b1.lst hide_full
    exact .inl ⟨a, vs, rfl, .inl q1.sq, q _ H1 s1 (by rw [q2.length]; exact .int _)⟩
  · cases e2
    obtain ⟨a, vs, rfl, q1, q2⟩ := b1.tup hide_full
    exact .inl ⟨a, vs, rfl, .inr q1, q _ H1 s1 (by rw [q2.length]; exact .int _)⟩
theorem Reps.at {K : PySem.W.Frag} {H : Hp} {vs : List V} {l : List PV} {i : Int} {p : PV} (h : Reps K κ H vs l) (e : itemAt l i = some p) : ∃ v, atI vs i = some v ∧ Rep K κ H v p := by
  obtain ⟨j, e1, e2⟩ := Option.bind_eq_some_iff.mp e
  obtain ⟨v, h1, h2⟩ := h.get e2
  refine ⟨v, ?_, h2⟩
  unfold atI
  rw [h.length]
  exact Option.bind_eq_some_iff.mpr ⟨j, e1, h1⟩
theorem de_ix (ha : DB X κ a fa) (hb : DB X κ b fb) (hs : PlainIx b := by intro _ _; rfl) : DE X κ (.Subscript a b pos) (dBin gIx fa fb) := by
  obtain ⟨ta, h1, h2⟩ := ha
  obtain ⟨tb, h3, h4⟩ := hb
  refine ⟨_, pe_ix ix_seq h1 h3 hs, fun {G A bo own ρ σ H p Q} r e q => ?_⟩
  refine evb2 h2 h4 r e fun x y p1 p2 H' s r' b1 b2 e' => ?_
  (cases p1 <;> first | (cases e'; done) | skip) <;> cases p2 <;> first | (cases e'; done) | skip
  · rename_i x' i'
    have e3 : (if x'.length ≤ sizeLine then (itemAt x'.cps.toList i').map fun c => PV.str ⟨#[c]⟩ else none) = some p := e'
    have z1 : x'.length ≤ sizeLine := by
      by_cases z : x'.length ≤ sizeLine
      · exact z
      · rw [if_neg z] at e3
        cases e3
    have z2 : ((itemAt x'.cps.toList i').map fun c => PV.str ⟨#[c]⟩) = some p := by
      rw [if_pos z1] at e3
      exact e3
    obtain ⟨c, e2, rfl⟩ := Option.map_eq_some_iff.mp z2
    exact .inr (.inr ⟨_, _, c, b1.str, b2.int, z1, e2, q _ H' s (.str _)⟩)
  · obtain ⟨a, vs, rfl, q1, q2⟩ := b1.lst hide_full
    obtain ⟨v, z1, z2⟩ := q2.at e'
    exact .inl ⟨a, vs, _, v, rfl, b2.int, q1.sq, z1, q _ H' s z2⟩
  · obtain ⟨a, vs, rfl, q1, q2⟩ := b1.tup hide_full
    obtain ⟨v, z1, z2⟩ := q2.at e'
    exact .inr (.inl ⟨a, vs, _, v, rfl, b2.int, q1, z1, q _ H' s z2⟩)
def DP (X : Cx) (κ : Kl) (e : Option Expr) (f : DenO) : Prop := ∃ to, PO X e to ∧ ∀ {G A bo own ρ σ H o Q}, R X.K κ G A bo own ρ σ H → f ρ = some o → (∀ H', Same H H' → Q o H') → to σ H Q
theorem dp_none : DP X κ none oNone := ⟨_, po_none, fun {G A bo own ρ σ H o Q} r e q => by cases e; exact q H (Same.refl _)⟩
theorem dp_some (ha : DB X κ a fa) : DP X κ (some a) (oSome fa) := by
  obtain ⟨ta, h1, h2⟩ := ha
  refine ⟨_, po_some h1, fun {G A bo own ρ σ H o Q} r e q => ?_⟩
  obtain ⟨p, e1, e2⟩ := Option.bind_eq_some_iff.mp e
  obtain ⟨i, e3, rfl⟩ := Option.map_eq_some_iff.mp e2
  refine h2 r e1 fun x H1 s1 b1 => ?_
  cases p <;> first | (cases e3; done) | skip
  cases e3
  exact ⟨_, b1.int, q H1 s1⟩
theorem Reps.cut {K : PySem.W.Frag} {H : Hp} {vs : List V} {l : List PV} (h : Reps K κ H vs l) (lo hi : Option Int) : Reps K κ H (cutV vs lo hi) (cutP l lo hi) := by
  have e : ∀ n d o, HT.sIx n d o = sIxP n d o := fun n d o => by cases o <;> rfl
  unfold cutV cutP
  rw [h.length, e, e]
  exact (h.drop _).take _
theorem do_slice {p2 : Pos} {lo hi : Option Expr} {fl fh : DenO} (ha : DB X κ a fa) (hl : DP X κ lo fl) (hh : DP X κ hi fh) : DO X κ (.Subscript a (.Slice lo hi none p2) pos) (dSl fa fl fh) := by
  obtain ⟨ta, h1, h2⟩ := ha
  obtain ⟨tl, h3, h4⟩ := hl
  obtain ⟨th, h5, h6⟩ := hh
  refine ⟨_, pe_slice sl_list h1 h3 h5, fun {G A bo own ρ σ H p Q} r e q => ?_⟩
  obtain ⟨p1, e1, e2⟩ := Option.bind_eq_some_iff.mp e
  obtain ⟨o1, e3, e4⟩ := Option.bind_eq_some_iff.mp e2
  obtain ⟨o2, e5, e6⟩ := Option.bind_eq_some_iff.mp e4
  refine h2 r e1 fun x H1 s1 b1 => h4 (r.mono s1) e3 fun H2 s2 => h6 ((r.mono s1).mono s2) e5 fun H3 s3 => ?_
  cases p1 <;> first | (cases e6; done) | skip
  cases e6
  have s13 := (s1.trans s2).trans s3
  obtain ⟨a, vs, rfl, q1, q2⟩ := (b1.mono' (s2.trans s3)).lst hide_full
  refine ⟨a, vs, rfl, q1.sq, fun n hn => q _ _ (s13.trans (same_upd hn)) ?_⟩
  obtain ⟨a, ws, l, w1, w2, w3, w4⟩ := (r.mono s13).newO hn (q2.cut o1 o2)
  refine ⟨a, ws, l, w1, w2, ?_, w4⟩
  cases w1
  exact s13.free hn
def tyN : Nat → String
  | 0 => "int"
  | 1 => "bool"
  | 2 => "str"
  | 3 => "list"
  | 4 => "tuple"
  | _ => "NoneType"
theorem kit_ok (K : PySem.W.Frag) : ∀ j, j < 6 → ∀ k, k < 5 → PySem.W.kitOne K (.type (tyN j)) (.type (tyN k)) = some (j == k || (k == 0 && j == 1)) := by
  intro j hj k hk
  rcases j with _ | _ | _ | _ | _ | _ | j <;> first | omega | (rcases k with _ | _ | _ | _ | _ | k <;> first | omega | rfl)
theorem call_isinst (k : Nat) (hk : k < 5) : CallR X (.builtin "isinstance") (fun xs H Q => ∃ x p, xs = [x, .ty (tyN k)] ∧ Rep X.K κ H x p ∧ kindP p ≠ 6 ∧ Q (.bl (isKind k p)) H) := by
  intro pins s σ H xs us Q I r h
  obtain ⟨x, p, rfl, rp, h6, q⟩ := h
  obtain ⟨u, c, rfl, ru, rc⟩ := vals2 r
  cases rc
  have fin : ∀ tk : Nat, EP X pins σ Q (.bool (isKind k p)) { s with toks := tk } := fun tk => ⟨.bl _, H, I.tok _, rfl, q⟩
  have kit := fun j hj => kit_ok X.K j hj k hk
  cases rp with
  | non => cases ru; exact PySem.W.kia_one PySem.W.kitx_none I.kIn True.intro (kit 5 (by decide)) (fun z => nomatch z) fin
  | bl b => cases ru; exact PySem.W.kia_one PySem.W.kitx_bool I.kIn True.intro (kit 1 (by decide)) (fun z => nomatch z) fin
  | int i => obtain ⟨t, rfl⟩ := ru; exact PySem.W.kia_one PySem.W.kitx_int I.kIn True.intro (kit 0 (by decide)) (fun z => nomatch z) fin
  | str i => obtain ⟨t, rfl⟩ := ru; exact PySem.W.kia_one PySem.W.kitx_str I.kIn True.intro (kit 2 (by decide)) (fun z => nomatch z) fin
  | lst h1 _ =>
    cases ru
    obtain ⟨_, _, pl, _⟩ := I.list h1.sq
    obtain ⟨o, ho, hc, _⟩ := pl.isList
    exact PySem.W.kia_one PySem.W.kitx_list I.kIn ⟨o, ho, hc⟩ (kit 3 (by decide)) (fun z => nomatch z) fin
  | tup h1 _ =>
    cases ru
    obtain ⟨_, _, pl, _⟩ := I.tuple h1
    obtain ⟨o, ho, hc, _⟩ := pl
    exact PySem.W.kia_one PySem.W.kitx_tuple I.kIn ⟨o, ho, hc⟩ (kit 4 (by decide)) (fun z => nomatch z) fin
  | ins _ _ _ => exact absurd rfl h6
theorem de_isinst {x : Str} {p2 : Pos} (k : Nat) (hk : k < 5) (hv : bootBuiltins x = some (.type (tyN k))) (ha : DB X κ a fa) (hm : X.mg "isinstance" = none) (hm2 : X.mg x = none) (hg : Gl X "isinstance") (hg2 : Gl X x) (hn : x ≠ "__name__") (hd : (x == ("__debug__" : Str)) = false)
    (hs : starEach [a, .Name x p2] X.env = (false, eval a X.env) :: starEach [.Name x p2] X.env) (hs2 : starEach [.Name x p2] X.env = (false, eval (.Name x p2) X.env) :: starEach [] X.env) (hpl : (backTo pos (starEach [.Name x p2] X.env)).any (·.1) = false) : DE X κ (.Call (.Name "isinstance" p) [a, .Name x p2] [] pos) (dUn (gIs k) fa) := by
  obtain ⟨ta, h1, h2⟩ := ha
  refine ⟨_, pe_callB (call_isinst (κ := κ) k hk) hg hm PyProof.Rows.boot_isinstance (pa_cons h1 (pa_cons (pe_bltn hg2 hm2 hv (v := .ty (tyN k)) rfl hn hd) pa_nil hs2) hs) (he := hs) (hpl := hpl), fun {G A bo own ρ σ H p Q} r e q => ?_⟩
  obtain ⟨p1, e1, e2⟩ := Option.bind_eq_some_iff.mp e
  refine h2 r e1 fun x H1 s1 b1 => ?_
  unfold gIs at e2
  split at e2
  · cases e2
  · cases e2
    exact ⟨_, p1, rfl, b1.full hide_full, by assumption, q _ H1 s1 (.bl _)⟩
end
end L2.D
set_option Elab.async false
set_option linter.all false
set_option maxRecDepth 100000
set_option maxHeartbeats 1000000
namespace L2.D
open PySem PySem.Spec PyProof.Rows PySem.SeqAt
open Classical
def kl0 : Kl := ⟨fun _ => 0, fun _ => []⟩
theorem law_callD {P : Program} {w : World} {K : PySem.W.Frag} {mg mb : Str → Option Value} {CX : CXT} {k : Nat} {fa a : Addr} {fd : FuncData} {x : Str} {sp : Sp} {s₁ : Shared} {vs : List Value} {ns : List Int}
    (KX : K.In s₁.heap) (hns : s₁.heap.Ns mainGlobals mg) (hb : s₁.heap.Ns builtinsNs mb) (hbb : ∀ x : Str, x ≠ "__name__" → mb x = bootBuiltins x) (hlim : s₁.heap.NoLimit) (hg : s₁.gens = #[])
    (ha : s₁.heap.get? a = some { cls := .type "list", data := .seq vs.toArray }) (hi : IntsAre vs ns) (hl : ns.length ≤ sizeLine) (hr : Room k callerA)
    (F : ∀ base : Heap, K.In base → base.Ns mainGlobals mg → FnOk P w K mg base CX k fa fd [x] sp) (hbind : ∀ (s : Shared) (u : Value), BindsTo s fd ⟨[u], []⟩ [(x, u)])
    (hsp : ∀ H : Hp, Only H → SL K H a (ns.map V.int) → sp [.ref a] H (fun v _ => v = .bl true) fun _ _ _ => False)
    (hCX : ∀ H e s', CX [] H s₁ (fun _ _ _ => False) e s' → False) :
    codeAny (model P w) callerA (.call (.ref fa) ⟨[.ref a], []⟩) (fun r s' => r = .ok (.ret (.bool true)) ∧ OldK s₁.heap s'.heap ∧ s'.os = s₁.os ∧ AllBare s'.gens) s₁ := by
  have rv := vals_ints hi
  have lenV := hi.length
  have core : ∀ H : Hp, Only H → SL K H a (ns.map V.int) → HOk P w H s₁.heap → (∀ b, H b ≠ none → b = a) → (H a ≠ none → K.lookup a = none) →
      codeAny (model P w) callerA (.call (.ref fa) ⟨[.ref a], []⟩) (fun r s' => r = .ok (.ret (.bool true)) ∧ OldK s₁.heap s'.heap ∧ s'.os = s₁.os ∧ AllBare s'.gens) s₁ := by
    intro H hO hS hok hA hK
    have base_of : ∀ {b : Addr} {o : Obj}, s₁.heap.get? b = some o → H b = none → (hidT s₁.heap H).get? b = some o := fun e n => hidT_get e n
    have noA : ∀ {b : Addr} {o : Obj} {es : Array DictEntry} {ep : Nat}, s₁.heap.get? b = some o → o.data = .dict es ep → H b = none := fun {b o es ep} e d => by
      cases q : H b with
      | none => rfl
      | some u =>
        have e' : b = a := hA b (by rw [q]; simp)
        subst e'
        rw [ha] at e; cases e
        have d' : Data.seq vs.toArray _ = Data.dict es ep := d
        cases d'
    have nsK : ∀ {b : Addr} {m : Str → Option Value}, s₁.heap.Ns b m → (hidT s₁.heap H).Ns b m := fun {b m} ⟨o, es, ep, e, d, r⟩ => ⟨o, es, ep, base_of e (noA e d), d, r⟩
    have hKb : K.In (hidT s₁.heap H) := fun b o e => base_of (KX b o e) (by
      cases q : H b with
      | none => rfl
      | some u =>
        have e' : b = a := hA b (by rw [q]; simp)
        subst e'
        rw [hK (by rw [q]; simp)] at e; cases e)
    have hM : Mod K mg (hidT s₁.heap H) := ⟨hKb, nsK hns, ⟨mb, nsK hb, hbb⟩, let ⟨mc, h1, h2⟩ := hlim; ⟨mc, nsK h1, h2⟩⟩
    have e0 : Env0 P w K mg (hidT s₁.heap H) callerA [] s₁ H := ⟨rfl, hM, fun b o e => of_hidT e, Nat.le_of_eq (hidT_size _ _), trivial, fun b hb => absurd (show b ∈ ([] : List Addr) from hb) (by simp), hok, .of_eq hg⟩
    refine codeAny_mono ((F _ hKb (nsK hns)).run callerA [] s₁ H ⟨[.ref a], []⟩ [.ref a] [.ref a] _ _ hr e0 (hbind s₁ (.ref a)) (.cons rfl .nil) (hsp H hO hS)) fun r s' h => ?_
    cases r with
    | error e => exact (hCX H e s' h).elim
    | ok fl =>
      cases fl with
      | next => exact False.elim h
      | brk => exact False.elim h
      | cont => exact False.elim h
      | ret u =>
        obtain ⟨v, H', os, bare, un, hok', r', q⟩ := h
        have q' : v = .bl true := q
        subst q'
        obtain rfl : u = Value.bool true := r'
        refine ⟨rfl, OldK.of_keep fun b o e => ?_, os, bare⟩
        cases q : H b with
        | none => exact un.keep b o e q (by intro z; exact absurd (show b ∈ ([] : List Addr) from z) (by simp)) (by simp)
        | some u =>
          rcases hO b with z | ⟨ob, xs, z⟩
          · rw [q] at z; cases z
          · have z2 := un.frzs b ob _ z
            obtain ⟨e1, _⟩ := hok b _ z
            obtain ⟨e2, _⟩ := hok' b _ z2
            rw [e] at e1; cases e1
            exact e2
  cases hk : K.lookup a with
  | some o =>
    have e := KX a o hk
    rw [ha] at e
    cases e
    refine core (fun _ => none) (fun _ => .inl rfl) (.inr ⟨vs, _, hk, by rw [lenV]; exact hl, rv⟩) (fun b u z => by have z' : (none : Option HO) = some u := z; cases z') (fun b z => absurd rfl z) fun z => absurd rfl z
  | none =>
    refine core (fun b => if b = a then some (.frz { cls := .type "list", data := .seq vs.toArray } (.lst (ns.map V.int))) else none) (fun b => ?_) (.inl (.inr ⟨{ cls := .type "list", data := .seq vs.toArray }, if_pos rfl⟩)) (fun b u z => ?_) (fun b z => ?_) fun _ => hk
    · by_cases hb : b = a
      · exact .inr ⟨_, _, if_pos hb⟩
      · exact .inl (if_neg hb)
    · by_cases hb : b = a
      · have z' := (if_pos hb).symm.trans z
        cases z'
        subst hb
        exact ⟨ha, by rw [List.length_map]; exact hl, vs, _, rv, ha⟩
      · have z' := (if_neg hb).symm.trans z
        cases z'
    · by_cases hb : b = a
      · exact hb
      · exact absurd (if_neg hb) z
theorem ints_rep {K : PySem.W.Frag} {κ : Kl} {H : Hp} : ∀ ns : List Int, Reps K κ H (ns.map V.int) (ns.map PV.int)
  | [] => .nil
  | n :: ns => .cons (.int n) (ints_rep ns)
section
variable {X : Cx} {κ : Kl} {fr : Bool} {e a b c : Expr} {f fa fb fc : Den} {p pos : Pos}
theorem de_isinst_bool {p2 : Pos} (ha : DB X κ a fa) (hm : X.mg "isinstance" = none) (hm2 : X.mg "bool" = none) (hg : Gl X "isinstance" := by rfl) (hg2 : Gl X "bool" := by rfl) (hs : starEach [a, .Name "bool" p2] X.env = (false, eval a X.env) :: starEach [.Name "bool" p2] X.env := by rfl) (hs2 : starEach [.Name "bool" p2] X.env = (false, eval (.Name "bool" p2) X.env) :: starEach [] X.env := by rfl)
    (hpl : (backTo pos (starEach [.Name "bool" p2] X.env)).any (·.1) = false := by rfl) : DE X κ (.Call (.Name "isinstance" p) [a, .Name "bool" p2] [] pos) (dUn (gIs 1) fa) := de_isinst 1 (by decide) PyProof.Rows.boot_bool ha hm hm2 hg hg2 (by decide) (by decide) hs hs2 hpl
end
end L2.D
set_option Elab.async false
set_option linter.all false
set_option maxRecDepth 100000
set_option maxHeartbeats 1000000
set_option Elab.async false
set_option linter.all false
set_option maxRecDepth 100000
set_option maxHeartbeats 1000000
set_option Elab.async false
set_option linter.all false
set_option maxRecDepth 100000
set_option maxHeartbeats 4000000
set_option Elab.async false
set_option linter.all false
set_option maxRecDepth 100000
set_option maxHeartbeats 1000000
namespace L2.D
open PySem PySem.Spec PyProof.Rows PySem.SeqAt
open Classical
section
variable {X : Cx} {κ : Kl} {fr : Bool} {pos : Pos}
theorem ds_setCO (i : Nat) {y x : Str} {py px spos : Pos} {sc : Scope} {elt iter : Expr} {fi : DenL} {f : Den} (hN : X.N.Nodup) (hi : DIB X κ (.Name x px) iter fi) (osc : Scope) (N0 ys : List Str) (he : ∀ ex C s H, DE (X.blk sc x ys ex C s H) κ elt f) (hiy : X.N[i]? = some y := by rfl) (hy : X.env.scope.names.lookup y = some .local := by rfl) (hosc : X.env.scope = osc := by rfl) (hN0 : X.N = N0 := by rfl) (hcs : compOk osc N0 sc x ys = true := by decide +kernel) (hc : X.calm = true := by rfl)
    (hs : ∀ x, foldedSetIterable iter X.env x = pure x := by intro _; rfl) (hsw : swapsWith (.ListComp elt [⟨.Name x px, iter, [], 0⟩] sc pos) (some (.Name y py)) spos.line X.env = pure true := by rfl) :
    DS X κ fr (.Assign [.Name y py] (.ListComp elt [⟨.Name x px, iter, [], 0⟩] sc pos) spos) (sSetO i (dComp fi tTrue f)) := by
  obtain ⟨wi, h1, h2⟩ := hi
  refine ⟨_, ps_setC hN hiy hy h1 ys (tt := ttS X.K κ tTrue) (te := teS X.K κ f) (fun ex C s H => ?_) (fun ex C s H => (he ex C s H).pe) (by rw [hosc, hN0]; exact hcs) hc hs hsw, fun {G A bo own ρ σ H fl D} r e k => ?_⟩
  · intro pins s σ H Q I ⟨_, _, _, _, _, _, r, e, q⟩
    cases e
    exact pifs_nil pins s σ H Q I (q _ (Same.refl _))
  · obtain ⟨p, e1, e2⟩ := Option.bind_eq_some_iff.mp e
    obtain ⟨l, e3, rfl⟩ := Option.map_eq_some_iff.mp e2
    refine evo_comp h2 r e1 fun v H' s z => ?_
    cases p <;> first | (cases e3; done) | skip
    cases e3
    obtain ⟨own', r'⟩ := r.setN s (i := i) z
    exact k _ _ _ r'
end
end L2.D
set_option Elab.async false
set_option linter.all false
set_option maxRecDepth 100000
set_option maxHeartbeats 1000000
namespace L2.D
open PySem
theorem fnok_none {P : Program} {w : World} {K : PySem.W.Frag} {mg : Str → Option Value} {base : Heap} {κ : Kl} {fr : Bool} {k : Nat} {f : Addr} {fd : FuncData} {ps : List Str} : FnOk P w K mg base CX0 k f fd ps (spD K κ fr fun _ => none) :=
  have no : ∀ {vs : List V} {H : Hp} {Q : VK} {E : XK}, spD K κ fr (fun _ => none) vs H Q E → False := fun ⟨_, _, _, _, _, h2, _⟩ => by cases h2
  ⟨fun _ _ _ _ h => (no h).elim, fun _ _ _ _ _ _ _ _ _ _ _ _ _ h => (no h).elim⟩
end L2.D
set_option Elab.async false
set_option linter.all false
set_option maxRecDepth 100000
set_option maxHeartbeats 1000000
namespace L2.D
open PySem PySem.Spec PyProof.Rows PySem.SeqAt
section
variable {X : Cx} {κ : Kl} {a b : Expr} {fa fb : Den}
def rngI (lo : Int) (n : Nat) : List Int := (List.range n).map fun (k : Nat) => lo + (k : Int)
theorem vals_rng : ∀ (acc : List Value) (lo : Int), (∀ j v, acc[j]? = some v → ∃ t, v = Value.int (lo + (j : Nat)) t) → Vals ((rngI lo acc.length).map V.int) acc
  | [], _, _ => .nil
  | v :: acc, lo, h => by
    obtain ⟨t, rfl⟩ := h 0 v rfl
    have ih := vals_rng acc (lo + 1) (fun j v e => by
      obtain ⟨t, e⟩ := h (j + 1) v (by simpa using e)
      exact ⟨t, by rw [e]; congr 1; omega⟩)
    have e : rngI lo (acc.length + 1) = lo :: rngI (lo + 1) acc.length := by
      unfold rngI
      rw [List.range_succ_eq_map, List.map_cons, List.map_map]
      congr 1
      · simp
      · refine List.map_congr_left fun k _ => ?_
        show lo + ((k + 1 : Nat) : Int) = _
        omega
    rw [List.length_cons, e, List.map_cons]
    exact .cons ⟨t, by simp⟩ ih
theorem call_list_rng (hc : X.calm = true) : CallR X (.type "list") (fun xs H Q => ∃ (p : Addr) (i j : Int), xs = [.ref p] ∧ H p = some (.rng i j) ∧ (-(2 ^ 62) ≤ i ∧ i < 2 ^ 62 ∧ -(2 ^ 62) ≤ j ∧ j < 2 ^ 62) ∧ (j - i).toNat ≤ 100000 ∧ ∀ l, H l = none → Q (.ref l) (upd H l (.lst ((rngI i (j - i).toNat).map V.int)))) := by
  intro pins s σ H xs us Q I r h
  obtain ⟨p, i, j, rfl, hp, ⟨h1, h2, h3, h4⟩, hn, q⟩ := h
  obtain ⟨u, rfl, rx⟩ := vals1 r
  cases rx
  obtain ⟨t, u, v, hr⟩ := I.hok p _ hp
  have zl : (100000 : Nat) ≤ sizeLine := by decide
  refine call_list_range (n := (j - i).toNat) (I.ok.hd hc) hr (small_one h1 h2 h3 h4) (by rw [rangeSize_one]; split <;> omega) (by omega) fun h' tk acc c kp e hi => ?_
  have hv : Vals ((rngI i (j - i).toNat).map V.int) acc.toList := by
    have := vals_rng acc.toList i (fun k v ek => by
      obtain ⟨t, e'⟩ := hi.2 k v (by simpa using ek)
      exact ⟨t, by rw [e']; simp⟩)
    rwa [Array.length_toList, hi.1] at this
  refine ⟨.ref s.heap.objs.size, _, I.laid (t' := tk) kp (Nat.le_refl _) (show ObjOk X.prog X.w _ h' _ (.lst ((rngI i (j - i).toNat).map V.int)) from ⟨?_, acc.toList, c, hv, e⟩), rfl, q _ (I.hok.fresh (Nat.le_refl _))⟩
  unfold rngI
  rw [List.length_map, List.length_map, List.length_range]
  omega
end
end L2.D
set_option Elab.async false
set_option linter.all false
set_option maxRecDepth 100000
set_option maxHeartbeats 1000000
namespace L2.D
open PySem PySem.Spec PyProof.Rows PySem.SeqAt
section
variable {X : Cx} {κ : Kl} {fr : Bool} {pos : Pos} {a e : Expr} {fa f : Den}
theorem ints_V {K : PySem.W.Frag} {H : Hp} : ∀ {vs : List V} {l : List PV} {ns : List Int}, Reps K κ H vs l → intsP l = some ns → vs = ns.map V.int
  | _, _, _, .nil, h => by cases h; rfl
  | _, p :: _, _, .cons r t, h => by
    cases p <;> first | (cases h; done) | skip
    obtain ⟨cs, h1, rfl⟩ := Option.map_eq_some_iff.mp h
    cases r
    rw [List.map_cons, ← ints_V t h1]
end
end L2.D
set_option Elab.async false
set_option linter.all false
set_option maxRecDepth 100000
set_option maxHeartbeats 1000000
set_option Elab.async false
set_option linter.all false
set_option maxRecDepth 100000
set_option maxHeartbeats 1000000
namespace L2.D
open PySem PySem.Spec PyProof.Rows PySem.SeqAt
section
variable {X : Cx} {κ : Kl} {fr : Bool} {pos : Pos} {a b e k : Expr} {fa fb f fk : Den}
theorem ds_asg {tg : Expr} {gt : Tgt} (hg : DG X κ tg gt) (he : DE X κ e f) (hs : swapsWithSole [tg] e pos.line X.env = pure false := by rfl) (hw : swappedStores [tg] e X.env = pure none := by rfl)
    (h1' : (assignEach [tg] X.env).map (·.2) = [assign tg X.env] := by rfl) : DS X κ fr (.Assign [tg] e pos) (sAsg gt f) := by
  obtain ⟨te, h1, h2⟩ := he
  obtain ⟨tt, h3, h4⟩ := hg
  refine ⟨_, ps_asg h1 h3 hs hw h1', fun {G A bo own ρ σ H fl D} r e k => ?_⟩
  obtain ⟨p, e1, e2⟩ := Option.bind_eq_some_iff.mp e
  obtain ⟨ρ', e3, rfl⟩ := Option.map_eq_some_iff.mp e2
  refine h2 r e1 fun v H1 s1 z1 => ?_
  exact h4 (r.mono s1) z1 e3 fun own' σ' r' _ => k _ _ _ r'
def DGs (X : Cx) (κ : Kl) (tgs : List Expr) (gs : List Tgt) : Prop := ∃ tt, PGs X tgs tt ∧ ∀ {G A bo own ρ σ H ps vs ρ' Q}, R X.K κ G A bo own ρ σ H → Reps X.K κ (hid A own ρ H) vs ps → gtAll gs ps ρ = some ρ' → (∀ own' σ', R X.K κ G A bo own' ρ' σ' H → Same (hid A own ρ H) (hid A own' ρ' H) → Q σ' H) → tt vs σ H Q
theorem dgs_nil : DGs X κ [] [] := ⟨_, pgs_nil, fun {G A bo own ρ σ H ps vs ρ' Q} r z e q => by
  cases z with
  | nil => cases e; exact ⟨rfl, q _ _ r fun _ _ h => h⟩
  | cons _ _ => cases e⟩
theorem dgs_cons {es : List Expr} {gt : Tgt} {gs : List Tgt} (ha : DG X κ a gt) (hb : DGs X κ es gs) (hs : (assignEach (a :: es) X.env).map (·.2) = assign a X.env :: (assignEach es X.env).map (·.2) := by rfl) : DGs X κ (a :: es) (gt :: gs) := by
  obtain ⟨ta, h1, h2⟩ := ha
  obtain ⟨tb, h3, h4⟩ := hb
  refine ⟨_, pgs_cons h1 h3 hs, fun {G A bo own ρ σ H ps vs ρ' Q} r z e q => ?_⟩
  cases z with
  | nil => cases e
  | cons r1 rs =>
    obtain ⟨ρ1, e1, e2⟩ := Option.bind_eq_some_iff.mp e
    refine ⟨_, _, rfl, h2 r r1 e1 fun own' σ' r' s' => ?_⟩
    exact h4 r' (rs.mono s') e2 fun own2 σ2 r2 s2 => q own2 σ2 r2 (s'.trans s2)
theorem gtAll_len : ∀ {gs : List Tgt} {ps : List PV} {ρ ρ' : Sto}, gtAll gs ps ρ = some ρ' → ps.length = gs.length
  | [], [], _, _, _ => rfl
  | [], _ :: _, _, _, e => by cases e
  | _ :: _, [], _, _, e => by cases e
  | t :: ts, p :: ps, ρ, ρ', e => by
    obtain ⟨ρ1, e1, e2⟩ := Option.bind_eq_some_iff.mp e
    rw [List.length_cons, List.length_cons, gtAll_len e2]
theorem dg_tup {es : List Expr} {gs : List Tgt} {k : Nat} (h : DGs X κ es gs) (hc : X.calm = true := by rfl) (hn : (assignEach es X.env).length = gs.length := by rfl) (hst : (assignEach es X.env).findIdx? (·.1) = none := by rfl) : DG X κ (.Tuple es k pos) (gtTup gs) := by
  obtain ⟨tt, h1, h2⟩ := h
  refine ⟨_, pg_tup hc h1 hn hst, fun {G A bo own ρ σ H p v ρ' Q} r z e q => ?_⟩
  unfold gtTup at e
  split at e
  · rename_i l
    cases z with
    | tup q1 q2 =>
      refine ⟨_, _, rfl, sameT (hide_full (A := hset A own ρ)) q1, ?_, h2 r q2 e q⟩
      rw [q2.length, gtAll_len e]
  · cases e
end
end L2.D
set_option Elab.async false
set_option linter.all false
set_option maxRecDepth 100000
set_option maxHeartbeats 1000000
set_option Elab.async false
set_option linter.all false
set_option maxRecDepth 100000
set_option maxHeartbeats 1000000
namespace L2.D
open PySem PySem.Spec PyProof.Rows PySem.SeqAt
section
variable {X : Cx} {κ : Kl} {pos p2 : Pos} {a b e : Expr} {fa fb : Den}
theorem mt_find : MtR X "str.find" (fun x xs H Q => ∃ i j, x = .str i ∧ xs = [.str j] ∧ Q (.int (Txt.find i j)) H) := by
  intro pins s σ H x xs v us Q I rx r h
  obtain ⟨i, j, rfl, rfl, q⟩ := h
  obtain ⟨t, rfl⟩ := rx
  obtain ⟨u, rfl, t', rfl⟩ := vals1 r
  exact SC.find ⟨.int _, H, I.tok _, ⟨_, rfl⟩, q⟩
theorem de_find {apos : Pos} (ha : DB X κ a fa) (hb : DB X κ b fb) (hbase : attributeBase a "find" X.env (eval a X.env) = eval a X.env := by rfl)
    (hfew : ((backTo pos (starEach [b] X.env)).all (fun x => !x.1) && (backToKw pos (keywordEach [] X.env)).all (fun x => x.1.isSome)
      && decide ([b].length + ([] : List Keyword).length + (if ([] : List Keyword).isEmpty then 0 else 1) < 30)) = true := by rfl)
    (hline : (apos.endLine == pos.line) = true := by rfl) (hs : starEach [b] X.env = (false, eval b X.env) :: starEach [] X.env := by rfl) : DE X κ (.Call (.Attribute a "find" apos) [b] [] pos) (dBin gFind fa fb) := by
  obtain ⟨ta, h1, h2⟩ := ha
  obtain ⟨tb, h3, h4⟩ := hb
  refine ⟨_, pe_bm PySem.F.plainAttrs_str PySem.F.slot_str_find PySem.F.type_str_find mt_find h1 (pa_cons h3 pa_nil hs) hbase hfew hline hs, fun {G A bo own ρ σ H p Q} r e q => ?_⟩
  obtain ⟨p1, e1, e2⟩ := Option.bind_eq_some_iff.mp e
  obtain ⟨p2, e3, e4⟩ := Option.bind_eq_some_iff.mp e2
  (cases p1 <;> first | (cases e4; done) | skip) <;> cases p2 <;> first | (cases e4; done) | skip
  cases e4
  refine h2 r e1 fun x H1 s1 b1 => ?_
  rw [b1.str]
  refine ⟨rfl, h4 (r.mono s1) e3 fun y H2 s2 b2 => ?_⟩
  rw [b2.str]
  exact ⟨_, _, rfl, rfl, q _ H2 (s1.trans s2) (.int _)⟩
theorem strs_vals : ∀ {ts : List Str} {us : List Value}, Vals (ts.map V.str) us → ∃ l : List (Str × Tok), us = strValues l ∧ l.map (·.1) = ts
  | [], _, .nil => ⟨[], rfl, rfl⟩
  | x :: ts, _, .cons ⟨t, ht⟩ r => by
    obtain ⟨l, h1, h2⟩ := strs_vals r
    subst ht
    exact ⟨(x, t) :: l, by rw [h1]; rfl, by rw [List.map_cons, h2]⟩
theorem strs_V {K : PySem.W.Frag} {H : Hp} : ∀ {vs : List V} {l : List PV} {ts : List Str}, Reps K κ H vs l → strsP l = some ts → vs = ts.map V.str
  | _, _, _, .nil, h => by cases h; rfl
  | _, p :: _, _, .cons r t, h => by
    cases p <;> first | (cases h; done) | skip
    obtain ⟨cs, h1, rfl⟩ := Option.map_eq_some_iff.mp h
    cases r
    rw [List.map_cons, ← strs_V t h1]
theorem mt_join : MtR X "str.join" (fun x xs H Q => ∃ (i : Str) (p : Addr) (ts : List Str), x = .str i ∧ xs = [.ref p] ∧ SqL X.K H p (ts.map V.str) ∧ JoinOk i ts = true ∧ Q (.str (Txt.join i ts)) H) := by
  intro pins s σ H x xs v us Q I rx r h
  obtain ⟨i, p, ts, rfl, rfl, hq, ok, q⟩ := h
  obtain ⟨t, rfl⟩ := rx
  obtain ⟨u, rfl, ru⟩ := vals1 r
  cases ru
  obtain ⟨its, rv, pl, hz⟩ := I.list hq
  obtain ⟨l, rfl, hl⟩ := strs_vals rv
  exact SC.join pl.isList hl ok fun t' k => ⟨.str _, H, I.tok _, ⟨_, rfl⟩, q⟩
theorem de_join {apos : Pos} (ha : DB X κ a fa) (hb : DB X κ b fb) (hbase : attributeBase a "join" X.env (eval a X.env) = eval a X.env := by rfl)
    (hfew : ((backTo pos (starEach [b] X.env)).all (fun x => !x.1) && (backToKw pos (keywordEach [] X.env)).all (fun x => x.1.isSome)
      && decide ([b].length + ([] : List Keyword).length + (if ([] : List Keyword).isEmpty then 0 else 1) < 30)) = true := by rfl)
    (hline : (apos.endLine == pos.line) = true := by rfl) (hs : starEach [b] X.env = (false, eval b X.env) :: starEach [] X.env := by rfl) : DE X κ (.Call (.Attribute a "join" apos) [b] [] pos) (dBin gJoin fa fb) := by
  obtain ⟨ta, h1, h2⟩ := ha
  obtain ⟨tb, h3, h4⟩ := hb
  refine ⟨_, pe_bm PySem.F.plainAttrs_str PySem.F.slot_str_join PySem.F.type_str_join mt_join h1 (pa_cons h3 pa_nil hs) hbase hfew hline hs, fun {G A bo own ρ σ H p Q} r e q => ?_⟩
  obtain ⟨p1, e1, e2⟩ := Option.bind_eq_some_iff.mp e
  obtain ⟨p2, e3, e4⟩ := Option.bind_eq_some_iff.mp e2
  (cases p1 <;> first | (cases e4; done) | skip) <;> cases p2 <;> first | (cases e4; done) | skip
  obtain ⟨ts, e5, e6⟩ := Option.bind_eq_some_iff.mp e4
  obtain ⟨ok, rfl⟩ := ite_some e6
  refine h2 r e1 fun x H1 s1 b1 => ?_
  rw [b1.str]
  refine ⟨rfl, h4 (r.mono s1) e3 fun y H2 s2 b2 => ?_⟩
  obtain ⟨a, vs, rfl, q1, q2⟩ := b2.lst hide_full
  rw [strs_V q2 e5] at q1
  exact ⟨_, a, ts, rfl, rfl, q1.sq, ok, q _ H2 (s1.trans s2) (.str _)⟩
theorem de_strI {p : Pos} (ha : DB X κ a fa) (hm : X.mg "str" = none) (hg : Gl X "str" := by rfl) (hs : starEach [a] X.env = (false, eval a X.env) :: starEach [] X.env := by rfl) : DE X κ (.Call (.Name "str" p) [a] [] pos) (dUn gStr fa) := by
  obtain ⟨ta, h1, h2⟩ := ha
  refine ⟨_, pe_callTy call_str_int hg hm (by decide +kernel) (pa_cons h1 pa_nil hs) (he := hs), fun {G A bo own ρ σ H p Q} r e q => ?_⟩
  obtain ⟨p1, e1, e2⟩ := Option.bind_eq_some_iff.mp e
  refine h2 r e1 fun x H1 s1 b1 => ?_
  cases p1 <;> first | (cases e2; done) | skip
  obtain ⟨ok, rfl⟩ := ite_some e2
  rw [decide_eq_true_eq] at ok
  refine ⟨_, by rw [b1.int], ?_, q _ H1 s1 (.str _)⟩
  rename_i i
  have : i.natAbs.log2 < 20 := by
    by_cases h0 : i.natAbs = 0
    · rw [h0]; decide
    · exact (Nat.log2_lt h0).mpr (by omega)
  omega
theorem part_val {v : Value} {o : Option Int} (h : IsPart v o) : ∃ l : Option (Int × Tok), v = partValue l ∧ l.map (·.1) = o := by
  cases h with
  | none => exact ⟨none, rfl, rfl⟩
  | int i t => exact ⟨some (i, t), rfl, rfl⟩
theorem filterMap_le {α β : Type} (f : α → Option β) : ∀ l : List α, (l.filterMap f).length ≤ l.length
  | [] => Nat.le_refl _
  | x :: l => by
    have := filterMap_le f l
    rw [List.filterMap_cons]
    split
    · rw [List.length_cons]; omega
    · rw [List.length_cons, List.length_cons]; omega
end
end L2.D
set_option Elab.async false
set_option linter.all false
set_option maxRecDepth 100000
set_option maxHeartbeats 1000000
namespace L2.D
open PySem PySem.Spec PyProof.Rows PySem.SeqAt
section
variable {K : PySem.W.Frag} {κ : Kl} {H : Hp}
theorem fld_get {f : Str} {p : PV} : ∀ {ns : List Str} {vs : List V} {l : List PV}, Reps K κ H vs l → (ns.zip l).lookup f = some p → f ∈ ns ∧ ∃ v, (ns.zip vs).lookup f = some v ∧ Rep K κ H v p
  | [], _, _, _, h => by cases h
  | n :: ns, _, _, .nil, h => by cases h
  | n :: ns, _, _, .cons (v := v) (p := q) r t, h => by
    rw [List.zip_cons_cons, List.lookup_cons] at h
    rw [List.zip_cons_cons, List.lookup_cons]
    by_cases e : f == n
    · rw [e] at h ⊢
      cases h
      exact ⟨by rw [eq_of_beq e]; exact List.mem_cons_self .., v, rfl, r⟩
    · have e' : (f == n) = false := by simpa using e
      rw [e'] at h ⊢
      obtain ⟨h1, h2⟩ := fld_get t h
      exact ⟨List.mem_cons_of_mem _ h1, h2⟩
end
theorem BR.rep {K : PySem.W.Frag} {κ : Kl} {hH H : Hp} {v : V} {c : Nat} {l : List PV} (h : BR K κ hH H v (.ins c l)) : Rep K κ hH v (.ins c l) := by
  rcases h with h | ⟨a, vs, l', h1, h2, h3, h4⟩
  · exact h
  · cases h2
def FldOk (K : PySem.W.Frag) (κ : Kl) (f : Str) : Prop := ∀ c, f ∈ κ.fld c → Cls K (κ.adr c) ∧ NoAttr K (κ.adr c) f
section
variable {X : Cx} {κ : Kl} {pos apos : Pos} {a b e o : Expr} {es : List Expr} {fa fb fo : Den} {fs : DenL} {m : Str}
theorem de_fld {f : Str} (ha : DB X κ a fa) (hf : FldOk X.K κ f) (hb : attributeBase a f X.env (eval a X.env) = eval a X.env := by rfl) : DE X κ (.Attribute a f pos) (dUn (fldP κ.fld f) fa) := by
  obtain ⟨ta, h1, h2⟩ := ha
  refine ⟨_, pe_fld h1 hb, fun {G A bo own ρ σ H p Q} r e q => ?_⟩
  obtain ⟨p1, e1, e2⟩ := Option.bind_eq_some_iff.mp e
  refine h2 r e1 fun x H1 s1 b1 => ?_
  cases p1 <;> first | (cases e2; done) | skip
  rename_i c l
  cases b1.rep with
  | ins h3 h4 h5 =>
    obtain ⟨h6, v, h7, h8⟩ := fld_get h5 e2
    obtain ⟨k1, k2⟩ := hf c h6
    exact ⟨_, _, _, _, v, rfl, hide_full _ _ h3, k1, k2, h7, q v H1 s1 h8⟩
def tMethD (X : Cx) (m : Str) (ta : TE) (t : TA) : TE := fun σ H Q => ta σ H fun x H1 => ∃ (a C dx : Addr) (fs : List (Str × V)) (f : Addr) (fd : FuncData) (ps : List Str) (sp : Sp) (k : Nat), x = .ref a ∧ H1 a = some (.ins C dx fs) ∧ Cls X.K C ∧ Meth X.K C m f ∧ fs.lookup m = none ∧
  FnOk X.prog X.w X.K X.mg X.base CX0 k f fd ps sp ∧ Room k X.A ∧ Binds X.K fd ps [] ∧ t σ H1 fun vs H2 => sp (x :: vs) H2 Q E0
theorem pe_methD {pl : Sem Bool} {ta : TE} {t : TA} (he : PE X o ta) (ha : PA X (e :: es) t)
    (hst : starEach (e :: es) X.env = (false, eval e X.env) :: starEach es X.env := by rfl) (hpl : (backTo pos (starEach es X.env)).any (·.1) = false := by rfl)
    (ht : eval (.Call (.Attribute o m apos) (e :: es) [] pos) X.env = (do
      let ov ← eval o X.env
      standAt apos.atName
      let (f, first) ← holding [ov] (getMethod ov m pl)
      callWith pos f first (backTo pos (starEach (e :: es) X.env)) (backToKw pos (keywordEach [] X.env))) := by rfl) : PE X (.Call (.Attribute o m apos) (e :: es) [] pos) (tMethD X m ta t) := by
  intro pins s σ H Q I h
  refine PySem.W.methodCall_KW (pl := pl) (thn (he pins s σ H _ I h) fun u s1 ⟨x, H1, I1, rx, a, C, dx, fs, f, fd, ps, sp, k, ex, ea, c, hm, l, F, hr, hb, q⟩ => ?_) ht
  subst ex
  obtain rfl : u = Value.ref a := rx
  refine getmeth_ok I1 ea c hm l ?_
  refine PySem.W.callWith_K (first := [.ref a]) (h₀ := X.base) I.ok.mod.kin hm.kp (thn (ha pos pins s1 σ H1 _ I1 q) fun us s2 ⟨vs, H2, I2, r, q2⟩ => ⟨I2.kIn, ?_⟩) hst hpl
  refine run_fn (us := .ref a :: us) (vs := .ref a :: vs) (ds := []) (dvs := []) F hr hb .nil pass0 I2 (.cons rfl r) ?_
  rw [List.append_nil]
  exact q2
def MethOk (P : Program) (w : World) (K : PySem.W.Frag) (mg : Str → Option Value) (base : Heap) (κ : Kl) (fr : Bool) (m : Str) (k : Nat) (ps : List Str) (Fs : Nat → List PV → Option PV) : Prop :=
  ∀ c xs p, Fs c xs = some p → ∃ (f : Addr) (fd : FuncData), Cls K (κ.adr c) ∧ Meth K (κ.adr c) m f ∧ m ∉ κ.fld c ∧ FnOk P w K mg base CX0 k f fd ps (spD K κ fr (Fs c)) ∧ Binds K fd ps []
theorem lookup_zip {α : Type} {f : Str} : ∀ {ns : List Str} {vs : List α}, f ∉ ns → (ns.zip vs).lookup f = none
  | [], _, _ => rfl
  | n :: ns, [], _ => rfl
  | n :: ns, v :: vs, h => by
    rw [List.zip_cons_cons, List.lookup_cons]
    have e : (f == n) = false := by
      rw [beq_eq_false_iff_ne]
      exact fun z => h (z ▸ List.mem_cons_self ..)
    rw [e]
    exact lookup_zip fun z => h (List.mem_cons_of_mem _ z)
theorem evs_meth {fr : Bool} {k : Nat} {ps : List Str} {Fs : Nat → List PV → Option PV} {ta : TE} {t : TA} (M : MethOk X.prog X.w X.K X.mg X.base κ fr m k ps Fs) (hr : Room k X.A) (h2 : EvS X.K κ ta fo)
    (h4 : ∀ {G A bo own ρ σ H ps Q}, R X.K κ G A bo own ρ σ H → fs ρ = some ps → (∀ vs H', Same H H' → Reps X.K κ (hid A own ρ H') vs ps → Q vs H') → t σ H Q)
    {G A bo own ρ σ H p} {Q : VK} (r : R X.K κ G A bo own ρ σ H) (e : dMeth Fs fo fs ρ = some p) (q : ∀ v H', Same H H' → RR fr X.K κ (hset A own ρ) H H' v p → Q v H') : tMethD X m ta t σ H Q := by
  obtain ⟨p1, e1, e2⟩ := Option.bind_eq_some_iff.mp e
  refine h2 r e1 fun x H1 s1 z1 => ?_
  cases p1 <;> first | (cases e2; done) | skip
  rename_i c l
  obtain ⟨xs, e3, e4⟩ := Option.bind_eq_some_iff.mp e2
  obtain ⟨f, fd, k1, k2, k3, k4, k5⟩ := M c _ _ e4
  cases z1 with
  | ins h3 h5 h6 =>
    refine ⟨_, _, _, _, f, fd, ps, _, k, rfl, hide_full _ _ h3, k1, k2, lookup_zip k3, k4, hr, k5, h4 (r.mono s1) e3 fun vs H2 s2 z2 => ?_⟩
    refine ⟨hset A own ρ, _, p, fun b hb => ((r.mono s1).mono s2).alH hb, .cons ((Rep.ins h3 h5 h6).mono (hide_same s2)) z2, e4, fun v H' s z => q v H' ((s1.trans s2).trans s) ?_⟩
    unfold RR at z ⊢
    split
    · rename_i hh
      rw [if_pos hh] at z
      exact ORg z (s1.trans s2) fun b w => w
    · rename_i hh
      rw [if_neg hh] at z
      exact z
theorem de_meth {k : Nat} {ps : List Str} {Fs : Nat → List PV → Option PV} {pl : Sem Bool} (M : MethOk X.prog X.w X.K X.mg X.base κ false m k ps Fs) (hr : Room k X.A) (ho : DE X κ o fo) (ha : DA X κ (e :: es) fs)
    (hst : starEach (e :: es) X.env = (false, eval e X.env) :: starEach es X.env := by rfl) (hpl : (backTo pos (starEach es X.env)).any (·.1) = false := by rfl)
    (ht : eval (.Call (.Attribute o m apos) (e :: es) [] pos) X.env = (do
      let ov ← eval o X.env
      standAt apos.atName
      let (f, first) ← holding [ov] (getMethod ov m pl)
      callWith pos f first (backTo pos (starEach (e :: es) X.env)) (backToKw pos (keywordEach [] X.env))) := by rfl) : DE X κ (.Call (.Attribute o m apos) (e :: es) [] pos) (dMeth Fs fo fs) := by
  obtain ⟨ta, h1, h2⟩ := ho
  obtain ⟨t, h3, h4⟩ := ha
  refine ⟨_, pe_methD h1 h3 hst hpl ht, fun {G A bo own ρ σ H p Q} r e q => ?_⟩
  exact evs_meth M hr h2 h4 r e fun v H' s z => q v H' s z
end
end L2.D
set_option Elab.async false
set_option linter.all false
set_option maxRecDepth 100000
set_option maxHeartbeats 1000000
namespace L2.D
open PySem PySem.Spec PyProof.Rows PySem.SeqAt
structure ClsFn (K : PySem.W.Frag) (C : Addr) (m : Str) (f : Addr) : Prop where
  rd : ∃ mc, PySem.W.readsIn K C mc = true ∧ PySem.W.findCls K (.ref C) mc m = some (.val (.ref f))
  ga : PySem.W.specialIn K (.ref C) "__getattribute__" = some (some (.builtin "type.__getattribute__"))
  hd : PySem.W.handedIn (.ref f) = true
  kp : PySem.W.keepIn K (.ref f) = true
section
variable {X : Cx} {κ : Kl} {pos apos np : Pos} {a b e o : Expr} {es : List Expr} {fa fb fo : Den} {m cn : Str} {C f : Addr} {fd : FuncData} {ps : List Str} {sp : Sp} {k : Nat} {t : TA}
theorem pe_clsfn {pl : Sem Bool} (c : ClsFn X.K C m f) (F : FnOk X.prog X.w X.K X.mg X.base CX0 k f fd ps sp) (hr : Room k X.A) (hg : Gl X cn) (hm : X.mg cn = some (.ref C)) (hb : Binds X.K fd ps []) (ha : PA X (e :: es) t) (hdb : (cn == ("__debug__" : Str)) = false := by decide)
    (hst : starEach (e :: es) X.env = (false, eval e X.env) :: starEach es X.env := by rfl) (hpl : (backTo pos (starEach es X.env)).any (·.1) = false := by rfl)
    (ht : eval (.Call (.Attribute (.Name cn np) m apos) (e :: es) [] pos) X.env = (do
      let ov ← eval (.Name cn np) X.env
      standAt apos.atName
      let (f, first) ← holding [ov] (getMethod ov m pl)
      callWith pos f first (backTo pos (starEach (e :: es) X.env)) (backToKw pos (keywordEach [] X.env))) := by rfl) : PE X (.Call (.Attribute (.Name cn np) m apos) (e :: es) [] pos) (tCall sp [] E0 t) := by
  intro pins s σ H Q I h
  refine PySem.W.methodCall_KW (pl := pl) (ld_glob I hg hm ?_ hdb) ht
  obtain ⟨mc, h1, h2⟩ := c.rd
  refine PySem.W.method_cls I.kIn c.ga (PySem.W.cls_value I.kIn h1 h2 c.hd ?_)
  have I1 : Inv X pins σ H { s with toks := s.toks + 1 } := I.tok _
  refine PySem.W.callWith_K (first := []) (h₀ := X.base) I.ok.mod.kin c.kp (thn (ha pos pins _ σ H _ I1 h) fun us s2 ⟨vs, H2, I2, r, q2⟩ => ⟨I2.kIn, ?_⟩) hst hpl
  exact run_fn (ds := []) (dvs := []) F hr hb .nil pass0 I2 r q2
end
def spHand (C : Addr) : Sp := fun vs H Q _ => ∃ x dx v, vs = [.ref x, v] ∧ H x = some (.ins C dx []) ∧ Q .non (upd H x (.ins C dx [("name", v)]))
def spCnt (K : PySem.W.Frag) (C : Addr) : Sp := fun vs H Q _ => ∃ x dx v p ys, vs = [.ref x, v, .ref p] ∧ H x = some (.ins C dx []) ∧ SL K H p ys ∧ ∀ t, H t = none → Q .non (upd (upd (upd H x (.ins C dx [("wanted", v)])) t (.tup ys)) x (.ins C dx [("wanted", v), ("parts", .ref t)]))
def spMk1 (K : PySem.W.Frag) (C : Addr) (g : List V → Int) : Sp := fun vs H Q _ => ∃ x dx p ys, vs = [.ref x, .ref p] ∧ H x = some (.ins C dx []) ∧ SL K H p ys ∧ ∀ t, H t = none → Q .non (upd (upd (upd H x (.ins C dx [("wanted", .int (g ys))])) t (.tup ys)) x (.ins C dx [("wanted", .int (g ys)), ("parts", .ref t)]))
theorem sl_upd {K : PySem.W.Frag} {H : Hp} {x p C dx : Addr} {fs fs' : List (Str × V)} {ys : List V} (h : H x = some (.ins C dx fs)) (q : SL K H p ys) : SL K (upd H x (.ins C dx fs')) p ys := by
  rcases q with (q | ⟨ob, q⟩) | q
  · refine .inl (.inl ?_)
    rw [upd_ne]
    · exact q
    · rintro rfl
      rw [h] at q
      cases q
  · refine .inl (.inr ⟨ob, ?_⟩)
    rw [upd_ne]
    · exact q
    · rintro rfl
      rw [h] at q
      cases q
  · exact .inr q
section
variable {K : PySem.W.Frag} {C : Addr} {κ : Kl}
abbrev rTup (K : PySem.W.Frag) : List V → Hp → VK → Prop := fun xs H Q => ∃ p ys, xs = [.ref p] ∧ ((SqL K H p ys ∧ ∀ l, H l = none → Q (.ref l) (upd H l (.tup ys))) ∨ (SqT K H p ys ∧ Q (.ref p) H))
abbrev rLen (K : PySem.W.Frag) : List V → Hp → VK → Prop := fun xs H Q => ∃ p ys, xs = [.ref p] ∧ (SqL K H p ys ∨ SqT K H p ys) ∧ Q (.int ys.length) H
abbrev DQ (Q : VK) : Ends := { nx := fun _ H' => Q .non H', rt := Q }
theorem rd_hand (cl : Cls K C) (na : NoAttr K C "name") {vs : List V} {H : Hp} {Q : VK} {E : XK} (h : spHand C vs H Q E) : sFld K (tVar 0) (tVar 1) "name" (DQ Q) (start ["self", "name"] vs) H := by
  obtain ⟨x, dx, v, rfl, hx, q⟩ := h
  exact ⟨v, rfl, _, rfl, x, C, dx, [], rfl, hx, cl, na, by decide, q⟩
theorem rd_cnt (cl : Cls K C) (na : NoAttr K C "wanted") (nb : NoAttr K C "parts") {vs : List V} {H : Hp} {Q : VK} {E : XK} (h : spCnt K C vs H Q E) :
    tSeq (sFld K (tVar 0) (tVar 1) "wanted") (sFld K (tVar 0) (tCB (rTup K) (tCons (tVar 2) tNil)) "parts") (DQ Q) (start ["self", "wanted", "parts"] vs) H := by
  obtain ⟨x, dx, v, p, ys, rfl, hx, hp, q⟩ := h
  refine ⟨v, rfl, _, rfl, x, C, dx, [], rfl, hx, cl, na, by decide, ?_⟩
  refine ⟨_, rfl, p, ys, rfl, .inl ⟨(sl_upd hx hp).sq, fun t ht => ?_⟩⟩
  have hxt : x ≠ t := by
    rintro rfl
    rw [upd_same] at ht
    cases ht
  have ht' : H t = none := by
    rw [upd_ne (Ne.symm hxt)] at ht
    exact ht
  refine ⟨_, rfl, x, C, dx, [("wanted", v)], rfl, ?_, cl, nb, (show (1 : Nat) < 1000 by decide), ?_⟩
  · rw [upd_ne hxt]
    exact upd_same
  · exact q t ht'
theorem rd_mk1 {ta : TE} {g : List V → Int} (ht : ∀ {σ : St} {H : Hp} {Q : VK} {p : Addr} {ys : List V}, σ[1]? = some (some (.ref p)) → SL K H p ys → Q (.int (g ys)) H → ta σ H Q) {vs : List V} {H : Hp} {Q : VK} {E : XK} (h : spMk1 K C g vs H Q E) :
    tDrop (tCall (spCnt K C) [] E0 (tCons (tVar 0) (tCons ta (tCons (tVar 1) tNil)))) (DQ Q) (start ["self", "parts"] vs) H := by
  obtain ⟨x, dx, p, ys, rfl, hx, hp, q⟩ := h
  refine ⟨_, rfl, ht rfl hp ⟨_, rfl, ?_⟩⟩
  exact ⟨x, dx, .int (g ys), p, ys, rfl, hx, hp, fun t ht => q t ht⟩
theorem rd_mk2 {vs : List V} {H : Hp} {Q : VK} {E : XK} (h : spCnt K C vs H Q E) :
    tDrop (tCall (spCnt K C) [] E0 (tCons (tVar 0) (tCons (tVar 1) (tCons (tVar 2) tNil)))) (DQ Q) (start ["self", "many", "parts"] vs) H := by
  obtain ⟨x, dx, v, p, ys, rfl, hx, hp, q⟩ := h
  refine ⟨_, rfl, _, rfl, _, rfl, ?_⟩
  exact ⟨x, dx, v, p, ys, rfl, hx, hp, fun t ht => q t ht⟩
theorem len_hand {vs : List V} {H : Hp} {Q : VK} {E : XK} (h : spHand C vs H Q E) : vs.length = 2 := by
  obtain ⟨x, dx, v, rfl, _⟩ := h
  rfl
theorem len_cnt {vs : List V} {H : Hp} {Q : VK} {E : XK} (h : spCnt K C vs H Q E) : vs.length = 3 := by
  obtain ⟨x, dx, v, p, ys, rfl, _⟩ := h
  rfl
theorem len_mk1 {g : List V → Int} {vs : List V} {H : Hp} {Q : VK} {E : XK} (h : spMk1 K C g vs H Q E) : vs.length = 2 := by
  obtain ⟨x, dx, p, ys, rfl, _⟩ := h
  rfl
theorem rd_len {σ : St} {H : Hp} {Q : VK} {p : Addr} {ys : List V} (h : σ[1]? = some (some (.ref p))) (hp : SL K H p ys) (q : Q (.int (ys.length : Nat)) H) : tCB (rLen K) (tCons (tVar 1) tNil) σ H Q := ⟨_, h, p, ys, rfl, .inl hp.sq, q⟩
theorem rd_one {σ : St} {H : Hp} {Q : VK} {p : Addr} {ys : List V} (h : σ[1]? = some (some (.ref p))) (hp : SL K H p ys) (q : Q (.int 1) H) : tC (.int 1) σ H Q := q
end
section
variable {K : PySem.W.Frag} {κ : Kl} {G H H' : Hp} {A : Addr → Prop} {bo : Nat → Option (Addr × List V)} {own : Nat → Addr} {ρ : Sto} {σ : St}
theorem same_made {C x dx : Addr} (hx : H x = none) (hd : H dx = none) (hn : dx ≠ x) : Same H (upd (upd H dx (.own x)) x (.ins C dx [])) := (same_upd hd).trans (same_upd (by rw [upd_ne (Ne.symm hn)]; exact hx))
theorem same_set {C x dx : Addr} {fs fs' : List (Str × V)} {H0 : Hp} (s : Same H0 H) (hx : H0 x = none) : Same H0 (upd H x (.ins C dx fs')) := fun b o e => by
  rw [upd_ne (ne_of_none e hx)]
  exact s b o e
theorem mk_hand {x dx : Addr} {v : V} {p : PV} (r : R K κ G A bo own ρ σ H) (hf : κ.fld 0 = [("name" : Str)]) (hx : H x = none) (hd : H dx = none) (hn : dx ≠ x) (z : Rep K κ (hid A own ρ H) v p) :
    Same H (upd (upd (upd H dx (.own x)) x (.ins (κ.adr 0) dx [])) x (.ins (κ.adr 0) dx [("name", v)])) ∧ Rep K κ (hid A own ρ (upd (upd (upd H dx (.own x)) x (.ins (κ.adr 0) dx [])) x (.ins (κ.adr 0) dx [("name", v)]))) (.ref x) (.ins 0 [p]) := by
  have s1 : Same H (upd (upd (upd H dx (.own x)) x (.ins (κ.adr 0) dx [])) x (.ins (κ.adr 0) dx [("name", v)])) := same_set (fs := []) (same_made (C := κ.adr 0) hx hd hn) hx
  refine ⟨s1, .ins (c := 0) (dx := dx) (vs := [v]) ?_ (by rw [hf]; rfl) (.cons (z.mono (hide_same s1)) .nil)⟩
  rw [hid, hide_of (r.new hx), upd_same, hf]
  rfl
theorem mk_cnt {c : Nat} {x dx t : Addr} {v : V} {q : PV} {ys : List V} {l : List PV} (r : R K κ G A bo own ρ σ H) (hf : κ.fld c = [("wanted" : Str), ("parts" : Str)]) (hx : H x = none) (hd : H dx = none) (hn : dx ≠ x) (ht : upd (upd H dx (.own x)) x (.ins (κ.adr c) dx []) t = none)
    (zv : Rep K κ (hid A own ρ H) v q) (z : Reps K κ (hid A own ρ H) ys l) :
    Same H (upd (upd (upd (upd (upd H dx (.own x)) x (.ins (κ.adr c) dx [])) x (.ins (κ.adr c) dx [("wanted", v)])) t (.tup ys)) x (.ins (κ.adr c) dx [("wanted", v), ("parts", .ref t)])) ∧
    Rep K κ (hid A own ρ (upd (upd (upd (upd (upd H dx (.own x)) x (.ins (κ.adr c) dx [])) x (.ins (κ.adr c) dx [("wanted", v)])) t (.tup ys)) x (.ins (κ.adr c) dx [("wanted", v), ("parts", .ref t)]))) (.ref x) (.ins c [q, .tup l]) := by
  have s0 : Same H (upd (upd H dx (.own x)) x (.ins (κ.adr c) dx [])) := same_made (C := κ.adr c) hx hd hn
  have hxt : x ≠ t := by
    rintro rfl
    rw [upd_same] at ht
    cases ht
  have ht0 : H t = none := s0.free ht
  have s1 : Same H (upd (upd (upd H dx (.own x)) x (.ins (κ.adr c) dx [])) x (.ins (κ.adr c) dx [("wanted", v)])) := same_set (fs := []) s0 hx
  have s2 : Same H (upd (upd (upd (upd H dx (.own x)) x (.ins (κ.adr c) dx [])) x (.ins (κ.adr c) dx [("wanted", v)])) t (.tup ys)) := fun b o e => by
    rw [upd_ne (ne_of_none e ht0)]
    exact s1 b o e
  have s3 : Same H (upd (upd (upd (upd (upd H dx (.own x)) x (.ins (κ.adr c) dx [])) x (.ins (κ.adr c) dx [("wanted", v)])) t (.tup ys)) x (.ins (κ.adr c) dx [("wanted", v), ("parts", .ref t)])) := same_set (fs := []) s2 hx
  refine ⟨s3, .ins (c := c) (dx := dx) (vs := [v, .ref t]) ?_ (by rw [hf]; rfl) (.cons (zv.mono (hide_same s3)) (.cons (.tup (vs := ys) (.inl (.inl ?_)) (z.mono (hide_same s3))) .nil))⟩
  · rw [hid, hide_of (r.new hx), upd_same, hf]
    rfl
  · rw [hid, hide_of (r.new ht0), upd_ne (Ne.symm hxt)]
    exact upd_same
end
section
variable {X : Cx} {κ : Kl} {pos p : Pos} {a b : Expr} {fa fb : Den} {f : Addr} {fd : FuncData} {ps : List Str} {k : Nat} {x : Str}
theorem de_mkHand (M : Mk X.K (κ.adr 0) f) (F : FnOk X.prog X.w X.K X.mg X.base CX0 k f fd ps (spHand (κ.adr 0))) (hf : κ.fld 0 = [("name" : Str)]) (hr : Room (k + 1) X.A) (hm : X.mg x = some (.ref (κ.adr 0))) (hb : Binds X.K fd ps []) (ha : DB X κ a fa) (hg : Gl X x := by rfl) (hdb : (x == ("__debug__" : Str)) = false := by decide)
    (he : starEach [a] X.env = (false, eval a X.env) :: starEach [] X.env := by rfl) : DE X κ (.Call (.Name x p) [a] [] pos) (dUn gHand fa) := by
  obtain ⟨ta, h1, h2⟩ := ha
  refine ⟨_, pe_make M F hr hg hm hb .nil pass0 (pa_cons h1 pa_nil he) hdb he, fun {G A bo own ρ σ H p Q} r e q => ?_⟩
  obtain ⟨p1, e1, e2⟩ := Option.bind_eq_some_iff.mp e
  refine h2 r e1 fun v H1 s1 b1 => ?_
  cases p1 <;> first | (cases e2; done) | skip
  cases e2
  intro y dy hy hdy hn
  rw [b1.str]
  obtain ⟨s3, z3⟩ := mk_hand (r.mono s1) hf hy hdy hn (.str _)
  exact ⟨y, dy, _, rfl, upd_same, rfl, q _ _ (s1.trans s3) z3⟩
theorem evs_mk1 {c : Nat} {g : List V → Int} {gP : List PV → Int} {ta : TE} (hgP : ∀ {vs : List V} {l : List PV}, vs.length = l.length → g vs = gP l) (hf : κ.fld c = [("wanted" : Str), ("parts" : Str)]) (h2 : EvB X.K κ ta fa) : EvS X.K κ (tMake (κ.adr c) (spMk1 X.K (κ.adr c) g) [] E0 (tCons ta tNil)) (dUn (fun p => match p with | .lst l => some (.ins c [.int (gP l), .tup l]) | _ => none) fa) := fun {G A bo own ρ σ H p Q} r e q => by
  obtain ⟨p1, e1, e2⟩ := Option.bind_eq_some_iff.mp e
  refine h2 r e1 fun v H1 s1 b1 => ?_
  cases p1 <;> first | (cases e2; done) | skip
  rename_i l
  cases e2
  obtain ⟨a, ys, rfl, q1, q2⟩ := b1.lst hide_full
  intro y dy hy hdy hn
  have s0 : Same H1 (upd (upd H1 dy (.own y)) y (.ins (κ.adr c) dy [])) := same_made (C := κ.adr c) hy hdy hn
  refine ⟨y, dy, a, ys, rfl, upd_same, s0.sl q1, fun t ht => ⟨rfl, ?_⟩⟩
  rw [hgP q2.length]
  obtain ⟨s3, z3⟩ := mk_cnt (r.mono s1) hf hy hdy hn ht (.int (gP l)) q2
  exact q _ _ (s1.trans s3) z3
theorem de_mkAll (M : Mk X.K (κ.adr 1) f) (F : FnOk X.prog X.w X.K X.mg X.base CX0 k f fd ps (spMk1 X.K (κ.adr 1) fun ys => (ys.length : Nat))) (hf : κ.fld 1 = [("wanted" : Str), ("parts" : Str)]) (hr : Room (k + 1) X.A) (hm : X.mg x = some (.ref (κ.adr 1))) (hb : Binds X.K fd ps []) (ha : DB X κ a fa) (hg : Gl X x := by rfl) (hdb : (x == ("__debug__" : Str)) = false := by decide)
    (he : starEach [a] X.env = (false, eval a X.env) :: starEach [] X.env := by rfl) : DE X κ (.Call (.Name x p) [a] [] pos) (dUn gAllO fa) := by
  obtain ⟨ta, h1, h2⟩ := ha
  exact ⟨_, pe_make M F hr hg hm hb .nil pass0 (pa_cons h1 pa_nil he) hdb he, fun {G A bo own ρ σ H p Q} r e q => evs_mk1 (c := 1) (g := fun ys => (ys.length : Nat)) (gP := fun l => (l.length : Nat)) (fun h => by rw [h]) hf h2 r (by
    obtain ⟨p1, e1, e2⟩ := Option.bind_eq_some_iff.mp e
    refine Option.bind_eq_some_iff.mpr ⟨p1, e1, ?_⟩
    cases p1 <;> first | (cases e2; done) | exact e2) q⟩
theorem de_mkAny (M : Mk X.K (κ.adr 2) f) (F : FnOk X.prog X.w X.K X.mg X.base CX0 k f fd ps (spMk1 X.K (κ.adr 2) fun _ => 1)) (hf : κ.fld 2 = [("wanted" : Str), ("parts" : Str)]) (hr : Room (k + 1) X.A) (hm : X.mg x = some (.ref (κ.adr 2))) (hb : Binds X.K fd ps []) (ha : DB X κ a fa) (hg : Gl X x := by rfl) (hdb : (x == ("__debug__" : Str)) = false := by decide)
    (he : starEach [a] X.env = (false, eval a X.env) :: starEach [] X.env := by rfl) : DE X κ (.Call (.Name x p) [a] [] pos) (dUn gAnyO fa) := by
  obtain ⟨ta, h1, h2⟩ := ha
  exact ⟨_, pe_make M F hr hg hm hb .nil pass0 (pa_cons h1 pa_nil he) hdb he, fun {G A bo own ρ σ H p Q} r e q => evs_mk1 (c := 2) (g := fun _ => 1) (gP := fun _ => 1) (fun _ => rfl) hf h2 r (by
    obtain ⟨p1, e1, e2⟩ := Option.bind_eq_some_iff.mp e
    refine Option.bind_eq_some_iff.mpr ⟨p1, e1, ?_⟩
    cases p1 <;> first | (cases e2; done) | exact e2) q⟩
theorem de_mkSome (M : Mk X.K (κ.adr 3) f) (F : FnOk X.prog X.w X.K X.mg X.base CX0 k f fd ps (spCnt X.K (κ.adr 3))) (hf : κ.fld 3 = [("wanted" : Str), ("parts" : Str)]) (hr : Room (k + 1) X.A) (hm : X.mg x = some (.ref (κ.adr 3))) (hb : Binds X.K fd ps []) (ha : DB X κ a fa) (hb' : DB X κ b fb) (hg : Gl X x := by rfl) (hdb : (x == ("__debug__" : Str)) = false := by decide)
    (he : starEach [a, b] X.env = (false, eval a X.env) :: starEach [b] X.env := by rfl) (he2 : starEach [b] X.env = (false, eval b X.env) :: starEach [] X.env := by rfl) (hpl : (backTo pos (starEach [b] X.env)).any (·.1) = false := by rfl) : DE X κ (.Call (.Name x p) [a, b] [] pos) (dBin gSomeO fa fb) := by
  obtain ⟨ta, h1, h2⟩ := ha
  obtain ⟨tb, h3, h4⟩ := hb'
  refine ⟨_, pe_make M F hr hg hm hb .nil pass0 (pa_cons h1 (pa_cons h3 pa_nil he2) he) hdb he hpl, fun {G A bo own ρ σ H p Q} r e q => ?_⟩
  refine evb2 h2 h4 r e fun v u p1 p2 H1 s1 r1 b1 b2 e2 => ?_
  (cases p1 <;> first | (cases e2; done) | skip) <;> cases p2 <;> first | (cases e2; done) | skip
  cases e2
  obtain ⟨a, ys, rfl, q1, q2⟩ := b2.lst hide_full
  intro y dy hy hdy hn
  have s0 : Same H1 (upd (upd H1 dy (.own y)) y (.ins (κ.adr 3) dy [])) := same_made (C := κ.adr 3) hy hdy hn
  rw [b1.int]
  refine ⟨y, dy, _, a, ys, rfl, upd_same, s0.sl q1, fun t ht => ⟨rfl, ?_⟩⟩
  obtain ⟨s3, z3⟩ := mk_cnt r1 hf hy hdy hn ht (.int _) q2
  exact q _ _ (s1.trans s3) z3
end
end L2.D
set_option Elab.async false
set_option linter.all false
set_option maxRecDepth 100000
set_option maxHeartbeats 1000000
namespace L2.D
open PySem PySem.Spec PyProof.Rows PySem.SeqAt
structure IsOk (K : PySem.W.Frag) (C CR : Addr) : Prop where
  cl : Cls K C
  ha : PySem.W.findIn K (.ref C) "__class__" = some (some (.builtin "object.__class__"))
  hn : PySem.W.specialIn K (.builtin "object.__class__") "__get__" = some (some (.builtin "getset_descriptor.__get__"))
  htk : PySem.W.takesIn K (.builtin "object.__class__") = some true
  hm : PySem.W.mroIn K C (.type "object") = some true
  kit : PySem.W.kitOne K (.ref C) (.ref CR) = some true
section
variable {X : Cx} {κ : Kl} {pos p : Pos} {a b : Expr} {fa fb : Den}
theorem call_isR {CR : Addr} : CallR X (.builtin "isinstance") (fun xs H Q => ∃ (a C dx : Addr) (fs : List (Str × V)), xs = [.ref a, .ref CR] ∧ H a = some (.ins C dx fs) ∧ IsOk X.K C CR ∧ Q (.bl true) H) := by
  intro pins s σ H xs us Q I r h
  obtain ⟨a, C, dx, fs, rfl, ha, ok, q⟩ := h
  cases r with
  | cons r1 r2 =>
    cases r2 with
    | cons r2 r3 =>
      cases r3
      cases r1
      cases r2
      exact isinst_ok (x := .ref a) I rfl (.ins ha ok.cl ok.ha ok.hn ok.htk ok.hm) ok.kit fun tk => ⟨.bl true, H, I.tok _, rfl, q⟩
theorem de_isR {cn : Str} {p2 : Pos} {CR : Addr} (ok : ∀ c, c < 4 → IsOk X.K (κ.adr c) CR) (ha : DB X κ a fa) (hm : X.mg "isinstance" = none) (hm2 : X.mg cn = some (.ref CR)) (hg : Gl X "isinstance" := by rfl) (hg2 : Gl X cn := by rfl) (hd : (cn == ("__debug__" : Str)) = false := by decide)
    (hs : starEach [a, .Name cn p2] X.env = (false, eval a X.env) :: starEach [.Name cn p2] X.env := by rfl) (hs2 : starEach [.Name cn p2] X.env = (false, eval (.Name cn p2) X.env) :: starEach [] X.env := by rfl) (hpl : (backTo pos (starEach [.Name cn p2] X.env)).any (·.1) = false := by rfl) : DE X κ (.Call (.Name "isinstance" p) [a, .Name cn p2] [] pos) (dUn gIsR fa) := by
  obtain ⟨ta, h1, h2⟩ := ha
  refine ⟨_, pe_callB (call_isR (CR := CR)) hg hm PyProof.Rows.boot_isinstance (pa_cons h1 (pa_cons (pe_glob hg2 hm2 (v := .ref CR) rfl hd) pa_nil hs2) hs) (he := hs) (hpl := hpl), fun {G A bo own ρ σ H p Q} r e q => ?_⟩
  obtain ⟨p1, e1, e2⟩ := Option.bind_eq_some_iff.mp e
  refine h2 r e1 fun x H1 s1 b1 => ?_
  cases p1 <;> first | (cases e2; done) | skip
  obtain ⟨hc, rfl⟩ := ite_some e2
  cases b1.rep with
  | ins h3 h4 h5 => exact ⟨_, _, _, _, rfl, hide_full _ _ h3, ok _ (of_decide_eq_true hc), q _ H1 s1 (.bl _)⟩
theorem de_tuple (ha : DB X κ a fa) (hm : X.mg "tuple" = none) (hg : Gl X "tuple" := by rfl) (hs : starEach [a] X.env = (false, eval a X.env) :: starEach [] X.env := by rfl) : DE X κ (.Call (.Name "tuple" p) [a] [] pos) (dUn gTuple fa) := by
  obtain ⟨ta, h1, h2⟩ := ha
  refine ⟨_, pe_callTy call_tuple_of hg hm (by decide +kernel) (pa_cons h1 pa_nil hs) (he := hs), fun {G A bo own ρ σ H p Q} r e q => ?_⟩
  obtain ⟨p1, e1, e2⟩ := Option.bind_eq_some_iff.mp e
  refine h2 r e1 fun x H1 s1 b1 => ?_
  cases p1 <;> first | (cases e2; done) | skip
  · cases e2
    obtain ⟨a, vs, rfl, q1, q2⟩ := b1.lst hide_full
    exact ⟨a, vs, rfl, .inl ⟨q1.sq, fun l hl => q _ _ (s1.trans (same_upd hl)) ((r.mono s1).newT hl q2)⟩⟩
  · cases e2
    rcases b1 with b1 | ⟨_, _, _, _, z, _⟩
    · cases b1 with
      | tup q1 q2 => exact ⟨_, _, rfl, .inr ⟨sameT hide_full q1, q _ H1 s1 (.tup q1 q2)⟩⟩
    · cases z
theorem best_max (ns : List Int) : ∀ n, n < ns.length → (ns.take (n + 1)).tail.foldl (fun a b => if b > a then b else a) (ns.getD 0 0) = ns.getD (argBest (fun i j => decide (ns.getD i 0 > ns.getD j 0)) n) 0
  | 0, h => by
    have : (ns.take 1).tail = [] := by
      cases ns with
      | nil => rfl
      | cons x l => simp
    rw [this]
    rfl
  | n + 1, h => by
    have ih := best_max ns n (by omega)
    have e : (ns.take (n + 1 + 1)).tail = (ns.take (n + 1)).tail ++ [ns.getD (n + 1) 0] := by
      rw [List.take_add_one, List.getElem?_eq_getElem h, List.tail_append_of_ne_nil, List.getD_eq_getElem?_getD, List.getElem?_eq_getElem h]
      · rfl
      · intro z
        have h2 : (ns.take (n + 1)).length = 0 := by rw [z]; rfl
        rw [List.length_take] at h2
        omega
    rw [e, List.foldl_append, ih]
    show (if ns.getD (n + 1) 0 > ns.getD (argBest _ n) 0 then _ else _) = ns.getD (if decide (ns.getD (n + 1) 0 > ns.getD (argBest _ n) 0) = true then n + 1 else argBest _ n) 0
    by_cases hh : ns.getD (n + 1) 0 > ns.getD (argBest (fun i j => decide (ns.getD i 0 > ns.getD j 0)) n) 0
    · rw [if_pos hh, if_pos (decide_eq_true hh)]
    · rw [if_neg hh, if_neg (by rw [decide_eq_false hh]; decide)]
theorem ints_toks : ∀ {us : List Value} {ns : List Int}, IntsAre us ns → ∃ xs : List (Int × Tok), us = xs.map (fun p => Value.int p.1 p.2) ∧ xs.map (·.1) = ns
  | _, _, .nil => ⟨[], rfl, rfl⟩
  | _, _, .cons i t h => by
    obtain ⟨xs, h1, h2⟩ := ints_toks h
    exact ⟨(i, t) :: xs, by rw [h1]; rfl, by rw [List.map_cons, h2]⟩
theorem call_max_ints (hc : X.calm = true) : CallR X (.builtin "max") (fun xs H Q => ∃ (p : Addr) (ns : List Int) (m : Int), xs = [.ref p] ∧ SqL X.K H p (ns.map V.int) ∧ maxL ns = some m ∧ Q (.int m) H) := by
  intro pins s σ H xs us Q I r h
  obtain ⟨p, ns, m, rfl, hq, hm, q⟩ := h
  obtain ⟨u, rfl, ru⟩ := vals1 r
  cases ru
  obtain ⟨its, rv, pl, hz⟩ := I.list hq
  obtain ⟨ts, rfl, ht⟩ := ints_toks (intsAre_of rv)
  have hlen : ns.length = ts.length := by rw [← ht, List.length_map]
  have h0 : 0 < ns.length := by
    cases ns with
    | nil => cases hm
    | cons _ _ => simp
  have na : ∀ i, numAt ts.toArray i = ns.getD i 0 := fun i => by
    unfold numAt
    rw [← ht, List.getD_eq_getElem?_getD, List.getElem?_map]
    simp
  refine max_intList (xs := ts.toArray) (I.ok.hd hc) (by simpa [intItems] using pl.isList) (by simpa using (hlen ▸ h0)) fun v h' tk hv kp => ?_
  obtain ⟨t, rfl⟩ := intItems_at hv
  have bm := best_max ns (ns.length - 1) (by omega)
  rw [show ns.length - 1 + 1 = ns.length by omega, List.take_length] at bm
  have em : m = numAt ts.toArray (argBest (fun i j => decide (numAt ts.toArray i > numAt ts.toArray j)) (ts.toArray.size - 1)) := by
    rw [na, List.size_toArray, ← hlen, show (fun i j => decide (numAt ts.toArray i > numAt ts.toArray j)) = fun i j => decide (ns.getD i 0 > ns.getD j 0) from by funext i j; rw [na, na], ← bm]
    cases ns with
    | nil => cases hm
    | cons x l =>
      cases hm
      rfl
  rw [← em]
  exact ⟨.int m, H, I.kept (t' := tk) kp, ⟨_, rfl⟩, q⟩
theorem de_maxL (ha : DB X κ a fa) (hm : X.mg "max" = none) (hg : Gl X "max" := by rfl) (hc : X.calm = true := by rfl) (hs : starEach [a] X.env = (false, eval a X.env) :: starEach [] X.env := by rfl) : DE X κ (.Call (.Name "max" p) [a] [] pos) (dUn gMaxL fa) := by
  obtain ⟨ta, h1, h2⟩ := ha
  refine ⟨_, pe_callB (call_max_ints hc) hg hm (by decide +kernel) (pa_cons h1 pa_nil hs) (he := hs), fun {G A bo own ρ σ H p Q} r e q => ?_⟩
  obtain ⟨p1, e1, e2⟩ := Option.bind_eq_some_iff.mp e
  refine h2 r e1 fun x H1 s1 b1 => ?_
  cases p1 <;> first | (cases e2; done) | skip
  obtain ⟨ns, e3, e4⟩ := Option.bind_eq_some_iff.mp e2
  obtain ⟨m, e5, rfl⟩ := Option.map_eq_some_iff.mp e4
  obtain ⟨a, vs, rfl, q1, q2⟩ := b1.lst hide_full
  rw [ints_V q2 e3] at q1
  exact ⟨a, ns, m, rfl, q1.sq, e5, q _ H1 s1 (.int _)⟩
theorem post_cut {l u st : Option (Int × Tok)} {y : Str} {t : Tok} {Q : Value → Shared → Prop} {s : Shared} (h0 : (st.map (·.1)).getD 1 ≠ 0) (hy : y.length ≤ sizeLine) (q : ∀ t' k, Q (.str (cutS y (l.map (·.1)) (u.map (·.1)) ((st.map (·.1)).getD 1)) t') { s with toks := k }) : (sliceMade y t l u st).post Q s := by
  unfold sliceMade
  unfold cutS at q
  unfold slicePicked
  split
  · rename_i hh
    rw [if_pos hh] at q
    exact q t s.toks
  · rename_i hh
    rw [if_neg hh] at q
    refine ⟨?_, q _ _⟩
    show ((Builtin.Str.strSliceIndices _ _ _ y.length).filterMap (y.cps[·]?)).toArray.size ≤ sizeLine
    rw [List.size_toArray]
    have h1 := filterMap_le (y.cps[·]?) (Builtin.Str.strSliceIndices (l.map (·.1)) (u.map (·.1)) ((st.map (·.1)).getD 1) y.length)
    have h2 := sliceIndicesBy_le (l.map (·.1)) (u.map (·.1)) ((st.map (·.1)).getD 1) h0 y.length
    omega
theorem sl_str : SlR X (fun x lo hi H Q => ∃ y, x = .str y ∧ y.length ≤ sizeLine ∧ Q (.str (cutS y lo hi 1)) H) := by
  intro pins s σ H x v vl vu lo hi sl Q I rx hs pl pu h
  obtain ⟨y, rfl, hy, q⟩ := h
  obtain ⟨t, rfl⟩ := rx
  obtain ⟨l, rfl, hl⟩ := part_val pl
  obtain ⟨u, rfl, hu⟩ := part_val pu
  refine ⟨"str", _, F.slot_str_getitem.lookup, typeIs_str _ _ _, wpAny_getItem_str_slice (l := l) (u := u) (st := none) hs rfl (post_cut (st := none) (by decide) hy fun t' k => ?_)⟩
  rw [hl, hu]
  exact ⟨.str _, H, I.tok _, ⟨_, rfl⟩, q⟩
theorem de_sliceA {p2 : Pos} {lo hi : Option Expr} {fl fh : DenO} (ha : DB X κ a fa) (hl : DP X κ lo fl) (hh : DP X κ hi fh) : DE X κ (.Subscript a (.Slice lo hi none p2) pos) (dSlA fa fl fh) := by
  obtain ⟨ta, h1, h2⟩ := ha
  obtain ⟨tl, h3, h4⟩ := hl
  obtain ⟨th, h5, h6⟩ := hh
  refine ⟨_, pe_slice (sl_list.or sl_str) h1 h3 h5, fun {G A bo own ρ σ H p Q} r e q => ?_⟩
  obtain ⟨p1, e1, e2⟩ := Option.bind_eq_some_iff.mp e
  obtain ⟨o1, e3, e4⟩ := Option.bind_eq_some_iff.mp e2
  obtain ⟨o2, e5, e6⟩ := Option.bind_eq_some_iff.mp e4
  refine h2 r e1 fun x H1 s1 b1 => h4 (r.mono s1) e3 fun H2 s2 => h6 ((r.mono s1).mono s2) e5 fun H3 s3 => ?_
  have s13 := (s1.trans s2).trans s3
  cases p1 <;> first | (cases e6; done) | skip
  · obtain ⟨hy, rfl⟩ := ite_some e6
    exact .inr ⟨_, by rw [b1.str], hy, q _ H3 s13 (.str _)⟩
  · cases e6
    obtain ⟨a, vs, rfl, q1, q2⟩ := (b1.mono' (s2.trans s3)).lst hide_full
    exact .inl ⟨a, vs, rfl, q1.sq, fun n hn => q _ _ (s13.trans (same_upd hn)) (OR.rep (r.mono s13) ((r.mono s13).newO hn (q2.cut o1 o2)))⟩
end
end L2.D
set_option Elab.async false
set_option linter.all false
set_option maxRecDepth 100000
set_option maxHeartbeats 1000000
namespace L2.D
open PySem PySem.Spec PyProof.Rows PySem.SeqAt
section
variable {X : Cx} {κ : Kl} {pos p p2 : Pos} {a b c e : Expr} {fa fb : Den}
theorem pe_revS {te tc : TE} (he : PE X e te) (hc : PE X c tc) : PE X (.Subscript e (.Slice none none (some c) p2) pos) (fun σ H Q => te σ H fun x H1 => tc σ H1 fun z H2 => ∃ y, x = .str y ∧ z = .int (-1) ∧ y.length ≤ sizeLine ∧ Q (.str (cutS y none none (-1))) H2) := by
  intro pins s σ H Q I h
  refine Subscript_ (thn (he pins s σ H _ I h) fun v s1 ⟨x, H1, I1, r1, q1⟩ => ?_)
  refine wpAny_Slice ?_
  rw [evalPart_none]
  refine wpAny_pure (wpAny_pure ?_)
  rw [evalPart_some]
  refine thn (hc pins s1 σ H1 _ I1 q1) fun u s3 ⟨z, H3, I3, r3, y, ex, ez, hy, q⟩ => ?_
  subst ex ez
  obtain ⟨t, rfl⟩ := r1
  obtain ⟨t', rfl⟩ := r3
  have I4 : Inv X pins σ H3 { s3 with heap := s3.heap.push { cls := .type "slice", data := .fields #[.none, .none, .int (-1) t'] } } := I3.kept (t' := s3.toks) fun b ob q => Heap.get?_push_of_some _ q
  show wpAny (model X.prog X.w) X.A (subscriptTail e (.Slice none none (some c) p2) (.str y t) (.ref s3.heap.objs.size)) (EP X pins σ Q) X.xe { s3 with heap := s3.heap.push { cls := .type "slice", data := .fields #[.none, .none, .int (-1) t'] } }
  refine tail_any (ops := [.ref s3.heap.objs.size, .str y t]) (T := "str") (typeIs_str _ _ _) F.slot_str_getitem.lookup ?_ (by with_unfolding_all rfl)
  refine wpAny_getItem_str_slice (l := none) (u := none) (st := some (-1, t')) ⟨_, Heap.get?_push_size _ rfl, rfl, rfl⟩ rfl (post_cut (st := some (-1, t')) (show (-1 : Int) ≠ 0 by decide) hy fun t'' k => ?_)
  exact ⟨.str _, H3, I4.tok _, ⟨_, rfl⟩, q⟩
theorem de_revS (ha : DB X κ a fa) (hc : DB X κ c (dUn gNeg (dC (.int 1)))) : DE X κ (.Subscript a (.Slice none none (some c) p2) pos) (dUn gRev fa) := by
  obtain ⟨ta, h1, h2⟩ := ha
  obtain ⟨tc, h3, h4⟩ := hc
  refine ⟨_, pe_revS h1 h3, fun {G A bo own ρ σ H p Q} r e q => ?_⟩
  obtain ⟨p1, e1, e2⟩ := Option.bind_eq_some_iff.mp e
  refine h2 r e1 fun x H1 s1 b1 => h4 (r.mono s1) (p := .int (-1)) rfl fun z H2 s2 b2 => ?_
  cases p1 <;> first | (cases e2; done) | skip
  obtain ⟨hy, rfl⟩ := ite_some e2
  exact ⟨_, b1.str, b2.int, hy, q _ H2 (s1.trans s2) (.str _)⟩
end
end L2.D
set_option Elab.async false
set_option linter.all false
set_option maxRecDepth 100000
set_option maxHeartbeats 1000000
namespace L2.D
open PySem PySem.Spec PyProof.Rows PySem.SeqAt
theorem walkD2 {l : PySem.W.OpenLaw} {n k : Nat} {q : Program} {loose : List Str} {XP : (Str → Option Value) → Heap → Prop} {YP : World → Heap → Prop} {d : DefRec} {K : Params → PySem.W.Frag} {x : Str} {F : List PV → Option PV}
    (hn : l.most = some n) (hn2 : n ≤ sizeLine) (hdf : d.params.defaults = []) (hr : Room k callerA)
    (hY : ∀ (w : World) (h : Heap), YP w h → (K w.params).In h)
    (FF : ∀ (w : World) (mg : Str → Option Value) (fa : Addr) (h : Heap), (K w.params).In h → h.Ns mainGlobals mg → mg d.name = some (.ref fa) →
      ∃ (κ : Kl) (fd : FuncData), (∀ (s : Shared) (u : Value), BindsTo s fd ⟨[u], []⟩ [(x, u)]) ∧
        ∀ base : Heap, (K w.params).In base → base.Ns mainGlobals mg → FnOk l.prog w (K w.params) mg base CX0 k fa fd [x] (spD (K w.params) κ false F))
    (hF : ∀ ns : List Int, ns.length ≤ n → F [.lst (ns.map .int)] = some (.bl true)) :
    PySem.W.WalkO q loose XP YP l.row.toRowW d [] (fun f vs => PySem.call f vs) := by
  refine Att.attach_call hn hdf fun w s₀ s₁ mg mb fa o pm cd doc a vs ns G Y ho hd hcd hmg hobj hints hlen hg => ?_
  have KX := hY w _ Y
  obtain ⟨κ, fd, hb, hF'⟩ := FF w mg fa _ KX G.T.g hmg
  refine law_callD KX G.T.g G.T.b G.T.builtins G.T.nolimit hg hobj hints (Nat.le_trans hlen hn2) hr hF' hb (fun H hO hS => ?_) fun H e s' z => z
  have e : hide (fun _ => False) H = H := by
    funext b
    exact hide_of fun z => z
  refine ⟨fun _ => False, [.lst (ns.map .int)], .bl true, fun b z => z.elim, .cons ?_ .nil, hF ns hlen, fun v H' s z => ?_⟩
  · rw [e]
    exact .lst hS (ints_rep ns)
  · cases (show Rep (K w.params) κ _ v (.bl true) from z)
    rfl
theorem MethOk.mono {P : Program} {w : World} {K : PySem.W.Frag} {mg : Str → Option Value} {base : Heap} {κ : Kl} {fr : Bool} {m : Str} {j k : Nat} {ps : List Str} {Fs : Nat → List PV → Option PV} (M : MethOk P w K mg base κ fr m j ps Fs) (h : j ≤ k) : MethOk P w K mg base κ fr m k ps Fs := fun c xs p e => by
  obtain ⟨f, fd, h1, h2, h3, h4, h5⟩ := M c xs p e
  exact ⟨f, fd, h1, h2, h3, h4.mono h, h5⟩
theorem de_fldR {X : Cx} {κ : Kl} {pos : Pos} {a : Expr} {fa : Den} {f : Str} (hκ : κ.fld = ftR) (hf : FldOk X.K κ f) (ha : DB X κ a fa) (hb : attributeBase a f X.env (eval a X.env) = eval a X.env := by rfl) : DE X κ (.Attribute a f pos) (dUn (fldP ftR f) fa) := by
  rw [← hκ]
  exact de_fld ha hf hb
theorem ds_never {X : Cx} {κ : Kl} {fr : Bool} {st : Stmt} : DS X κ fr st sNever := ⟨_, ps_never, fun {G A bo own ρ σ H fl D} r e k => by cases e⟩
structure Em (K : PySem.W.Frag) (x q : Str) (st : Stmt) (ps : List Str) (f : Addr) (fd : FuncData) : Prop where
  F : L2.Fun K x q st f fd
  b : L2.Binds K fd ps []
def clsBody (s : Stmt) (j : Nat) : Stmt := match s with
  | .ClassDef _ _ _ b _ _ _ _ _ _ _ => b.getD j (.Pass ⟨0, 0, 0, 0⟩)
  | _ => .Pass ⟨0, 0, 0, 0⟩
structure Cf (K : PySem.W.Frag) (mg : Str → Option Value) (κ : Kl) (CR CC fH fA fY fS fC : Addr) : Prop where
  fld : κ.fld = ftR
  cls : ∀ c, c < 4 → Cls K (κ.adr c)
  nn : NoAttr K (κ.adr 0) "name"
  nw : ∀ c, 0 < c → c < 4 → NoAttr K (κ.adr c) "wanted"
  np : ∀ c, 0 < c → c < 4 → NoAttr K (κ.adr c) "parts"
  kH : Mk K (κ.adr 0) fH
  kA : Mk K (κ.adr 1) fA
  kY : Mk K (κ.adr 2) fY
  kS : Mk K (κ.adr 3) fS
  gH : mg "Hand" = some (.ref (κ.adr 0))
  gA : mg "All" = some (.ref (κ.adr 1))
  gY : mg "Any" = some (.ref (κ.adr 2))
  gS : mg "Some" = some (.ref (κ.adr 3))
  cf : ClsFn K CC "__init__" fC
  gC : mg "Counting" = some (.ref CC)
  isR : ∀ c, c < 4 → IsOk K (κ.adr c) CR
  gR : mg "Rule" = some (.ref CR)
section
variable {K : PySem.W.Frag} {mg : Str → Option Value} {κ : Kl} {CR CC fH fA fY fS fC : Addr}
theorem ft_cases {c : Nat} {f : Str} (h : f ∈ ftR c) : (c = 0 ∧ f = "name") ∨ (0 < c ∧ c < 4 ∧ (f = "wanted" ∨ f = "parts")) := by
  unfold ftR at h
  split at h
  · exact .inl ⟨by assumption, by simpa using h⟩
  · split at h
    · exact .inr ⟨by omega, by assumption, by simpa using h⟩
    · cases h
theorem Cf.fldOk (C : Cf K mg κ CR CC fH fA fY fS fC) (f : Str) : FldOk K κ f := fun c h => by
  rw [C.fld] at h
  rcases ft_cases h with ⟨rfl, rfl⟩ | ⟨h1, h2, rfl | rfl⟩
  · exact ⟨C.cls 0 (by decide), C.nn⟩
  · exact ⟨C.cls c h2, C.nw c h1 h2⟩
  · exact ⟨C.cls c h2, C.np c h1 h2⟩
end
end L2.D
set_option Elab.async false
set_option linter.all false
set_option maxRecDepth 100000
set_option maxHeartbeats 1000000
namespace PySem.SeqAt
open PySem.Spec
open AutoSeq1 (wpAny_loadPart')
open MeetsSeq MeetsSeq2 MeetsSeq3 SeqRoads2
theorem tuple_indexAt (l : Addr) (items : Array Value) (n : Nat) (dd : Option Addr) (sl : Array (Option Value)) (x : Value) (e : Value → Bool) (k : Nat) (hk : k < items.size) (h1 : e items[k] = true) (h2 : ∀ j (hj : j < k), e (items[j]'(by omega)) = false) :
    Meets (Builtin.«tuple.index» ⟨[.ref l, x], []⟩)
      (fun A R s => s.heap.get? l = some { cls := .type "tuple", dict := dd, data := .seq items n, slots := sl } ∧ (∀ y, y ∈ items → EqAt A.in1 s y x (e y)) ∧ R (.ok (.ret (.int (k : Nat) s.toks))) { s with toks := s.toks + 1 }) :=
  .of_wp fun prog w A R s h => by
    obtain ⟨hp, g, d, tk, os⟩ := s; obtain ⟨hl, he, h⟩ := h
    unfold Builtin.«tuple.index»
    simp only [Std.Legacy.Range.forIn_eq_forIn_range', Std.Legacy.Range.size, Nat.sub_zero, Nat.add_sub_cancel, Nat.div_one]
    wp_walk using wpAny_loadPart' hl, wpAny_forIn_list _ (fun rest b s' => b.1 = none ∧ s' = ⟨hp, g, d, tk, os⟩ ∧ ∃ i, rest = List.range' i (items.size - i) ∧ i ≤ k) _
    case turn =>
      rintro j rest b s' ⟨hb, rfl, i, hr, hi⟩
      have ee : items.size - i = (items.size - (i + 1)) + 1 := by omega
      rw [ee, List.range'_succ] at hr
      injection hr with q1 q2
      subst q1
      have hj : j < items.size := by omega
      rw [Array.getElem?_eq_getElem hj]
      refine wpAny_bind (he items[j] (Array.getElem_mem hj) prog w _ _ ?_)
      rcases Nat.lt_or_ge j k with hlt | hge
      · rw [h2 j hlt]
        wp_walk
        exact ⟨rfl, rfl, j + 1, q2, hlt⟩
      · obtain rfl : j = k := by omega
        rw [h1]
        wp_walk
        exact ⟨_, rfl, h⟩
    case fin =>
      rintro ⟨b1, b2⟩ s' ⟨hb, rfl, i, hr, hi⟩
      have ee : items.size - i = (items.size - (i + 1)) + 1 := by omega
      rw [ee, List.range'_succ] at hr
      cases hr
    case h =>
      exact ⟨rfl, rfl, 0, by simp, Nat.zero_le _⟩
end PySem.SeqAt
namespace L2.D
open PySem PySem.Spec PyProof.Rows PySem.SeqAt
section
variable {X : Cx} {κ : Kl} {pos p p2 apos : Pos} {a b c e : Expr} {fa fb : Den}
def eqText (x : Str) : Value → Bool
  | .str y _ => decide (y = x)
  | _ => false
theorem idx_vals {x : Str} : ∀ {ts : List Str} {us : List Value}, Vals (ts.map V.str) us → x ∈ ts → ∃ h : idxS x ts < us.length, eqText x us[idxS x ts] = true ∧ ∀ j (hj : j < idxS x ts), eqText x (us[j]'(Nat.lt_trans hj h)) = false
  | [], _, _, h => nomatch h
  | y :: ts, _, .cons ⟨t, ht⟩ r, h => by
    subst ht
    by_cases e : y = x
    · subst e
      have z : idxS y (y :: ts) = 0 := by unfold idxS; rw [if_pos rfl]
      refine ⟨by rw [z]; simp, ?_, fun j hj => by rw [z] at hj; omega⟩
      simp only [z]
      show decide (y = y) = true
      simp
    · have hx : x ∈ ts := (List.mem_cons.mp h).resolve_left fun z => e z.symm
      obtain ⟨h1, h2, h3⟩ := idx_vals r hx
      have z : idxS x (y :: ts) = idxS x ts + 1 := by
        show (if y = x then 0 else 1 + idxS x ts) = _
        rw [if_neg e, Nat.add_comm]
      refine ⟨by rw [z]; simpa using h1, ?_, fun j hj => ?_⟩
      · simp only [z]
        exact h2
      · cases j with
        | zero =>
          show decide (y = x) = false
          simpa using e
        | succ j =>
          rw [z] at hj
          exact h3 j (by omega)
theorem eqAt_text {A : Around} {s : Shared} {y x : Str} {t u : Tok} : EqAt A s (.str y t) (.str x u) (decide (y = x)) := fun prog w E Q h => wpAny_eqBool_str h
theorem vals_text {x : Str} : ∀ {ts : List Str} {us : List Value}, Vals (ts.map V.str) us → ∀ v ∈ us, ∃ y t, v = .str y t
  | [], _, .nil, v, h => nomatch h
  | y :: ts, _, .cons ⟨t, ht⟩ r, v, h => by
    rcases List.mem_cons.mp h with rfl | h
    · exact ⟨y, t, ht⟩
    · exact vals_text (x := x) r v h
theorem pe_index {ta : TE} {tb : TE} (ha : PE X a ta) (hb : PE X b tb) (hbase : attributeBase a "index" X.env (eval a X.env) = eval a X.env := by rfl)
    (hfew : ((backTo pos (starEach [b] X.env)).all (fun x => !x.1) && (backToKw pos (keywordEach [] X.env)).all (fun x => x.1.isSome)
      && decide ([b].length + ([] : List Keyword).length + (if ([] : List Keyword).isEmpty then 0 else 1) < 30)) = true := by rfl)
    (hline : (apos.endLine == pos.line) = true := by rfl) (hs : starEach [b] X.env = (false, eval b X.env) :: starEach [] X.env := by rfl) :
    PE X (.Call (.Attribute a "index" apos) [b] [] pos) (fun σ H Q => ta σ H fun x H1 => ∃ p ts, x = .ref p ∧ SqT X.K H1 p (ts.map V.str) ∧ tb σ H1 fun y H2 => ∃ z, [y] = [V.str z] ∧ SqT X.K H2 p (ts.map V.str) ∧ z ∈ ts ∧ Q (.int (idxS z ts : Nat)) H2) := by
  intro pins s σ H Q I h
  refine wpAny_Call_method_late hbase hfew hline rfl (thn (ha pins s σ H _ I h) fun v s1 ⟨x, H1, I1, r1, p, ts, ex, hq, q1⟩ => ?_)
  subst ex
  cases r1
  obtain ⟨its, rv, pl, hz⟩ := I1.tuple hq
  have nd := I1.tupleD hq
  refine ⟨"tuple", "tuple.index", PySem.F.plainAttrs_tuple, PySem.F.slot_tuple_index, PySem.F.type_tuple_index, (show s1.heap.IsTuple p its.toArray from pl).typeIs, fun a e => by cases e; exact nd, ?_⟩
  have hA := pa_cons hb pa_nil hs pos pins s1 σ H1 (fun vs H2 => ∃ z, vs = [.str z] ∧ SqT X.K H2 p (ts.map V.str) ∧ z ∈ ts ∧ Q (.int (idxS z ts : Nat)) H2) I1 q1
  rw [hs] at hA ⊢
  refine Calls.callWith_builtin (by rfl) (Calls.evalArgs_plain ?_)
  refine thn hA fun us s2 ⟨vs, H2, I2, r2, z, ez, hq2, hm, q2⟩ => ?_
  subst ez
  obtain ⟨u, rfl, t, rfl⟩ := vals1 r2
  obtain ⟨its2, rv2, ⟨⟨cls, dd, data, sl⟩, ho, hc, n, hd⟩, hz2⟩ := I2.tuple hq2
  simp only at hc hd
  subst hc hd
  obtain ⟨h1, h2, h3⟩ := idx_vals rv2 hm
  refine call_meets PySem.F.slot_tuple_index ⟨_, ho, rfl⟩ PySem.F.entry_tuple_index (PySem.F.args_tuple_index_2 _ _) (tuple_indexAt p its2.toArray n dd sl (.str z t) (eqText z) (idxS z ts) (by simpa using h1) (by simpa using h2) (fun j hj => by simpa using h3 j hj)) ⟨ho, fun y hy => ?_, ?_⟩
  · obtain ⟨y', t', rfl⟩ := vals_text (x := z) rv2 y (by simpa using hy)
    exact eqAt_text
  · exact ⟨.int _, H2, I2.tok _, ⟨_, rfl⟩, q2⟩
theorem de_index (ha : DB X κ a fa) (hb : DB X κ b fb) (hbase : attributeBase a "index" X.env (eval a X.env) = eval a X.env := by rfl)
    (hfew : ((backTo pos (starEach [b] X.env)).all (fun x => !x.1) && (backToKw pos (keywordEach [] X.env)).all (fun x => x.1.isSome)
      && decide ([b].length + ([] : List Keyword).length + (if ([] : List Keyword).isEmpty then 0 else 1) < 30)) = true := by rfl)
    (hline : (apos.endLine == pos.line) = true := by rfl) (hs : starEach [b] X.env = (false, eval b X.env) :: starEach [] X.env := by rfl) : DE X κ (.Call (.Attribute a "index" apos) [b] [] pos) (dBin gIndex fa fb) := by
  obtain ⟨ta, h1, h2⟩ := ha
  obtain ⟨tb, h3, h4⟩ := hb
  refine ⟨_, pe_index h1 h3 hbase hfew hline hs, fun {G A bo own ρ σ H p Q} r e q => ?_⟩
  obtain ⟨p1, e1, e2⟩ := Option.bind_eq_some_iff.mp e
  obtain ⟨p2, e3, e4⟩ := Option.bind_eq_some_iff.mp e2
  (cases p1 <;> first | (cases e4; done) | skip) <;> cases p2 <;> first | (cases e4; done) | skip
  obtain ⟨ts, e5, e6⟩ := Option.bind_eq_some_iff.mp e4
  obtain ⟨ok, rfl⟩ := ite_some e6
  refine h2 r e1 fun x H1 s1 b1 => ?_
  obtain ⟨a, vs, rfl, q1, q2⟩ := b1.tup hide_full
  have ev := strs_V q2 e5
  subst ev
  refine ⟨a, ts, rfl, q1, h4 (r.mono s1) e3 fun y H2 s2 b2 => ?_⟩
  rw [b2.str]
  exact ⟨_, rfl, sameT s2 q1, of_decide_eq_true ok, q _ H2 (s1.trans s2) (.int _)⟩
theorem pick_rev (its : Array Value) : (slicePick its none none (some (-1))).toList = its.toList.reverse := by
  have e0 : (slicePick its none none (some (-1))).toList = ((List.range (if (its.size : Int) - 1 > -1 then ((its.size : Int) - 1 - -1 - -1 - 1) / (- -1) else 0).toNat).map fun (k : Nat) => ((its.size : Int) - 1 + -1 * (k : Int)).toNat).filterMap (its[·]?) := rfl
  have ec : (if (its.size : Int) - 1 > -1 then ((its.size : Int) - 1 - -1 - -1 - 1) / (- -1) else 0).toNat = its.size := by
    have e1 : (- -1 : Int) = 1 := by decide
    rw [e1, Int.ediv_one]
    split <;> omega
  rw [e0, ec]
  have em : ((List.range its.size).map fun (k : Nat) => ((its.size : Int) - 1 + -1 * (k : Int)).toNat) = (List.range its.size).reverse := by
    have := List.reverse_range' (s := 0) (n := its.size)
    rw [List.range_eq_range'] at *
    rw [this]
    refine List.map_congr_left fun k _ => ?_
    omega
  rw [em, List.filterMap_reverse]
  have := pick_run its 0 its.size
  simp only [Nat.zero_add, List.map_id', List.drop_zero] at this
  rw [this, List.take_of_length_le (by simp)]
theorem pe_revL {te tc : TE} (he : PE X e te) (hc : PE X c tc) : PE X (.Subscript e (.Slice none none (some c) p2) pos) (fun σ H Q => te σ H fun x H1 => tc σ H1 fun z H2 => ∃ a xs, x = .ref a ∧ z = .int (-1) ∧ SqL X.K H2 a xs ∧ ∀ n, H2 n = none → Q (.ref n) (upd H2 n (.lst xs.reverse))) := by
  intro pins s σ H Q I h
  refine Subscript_ (thn (he pins s σ H _ I h) fun v s1 ⟨x, H1, I1, r1, q1⟩ => ?_)
  refine wpAny_Slice ?_
  rw [evalPart_none]
  refine wpAny_pure (wpAny_pure ?_)
  rw [evalPart_some]
  refine thn (hc pins s1 σ H1 _ I1 q1) fun u s3 ⟨z, H3, I3, r3, a, xs, ex, ez, hq, q⟩ => ?_
  subst ex ez
  cases r1
  obtain ⟨t', rfl⟩ := r3
  have I4 : Inv X pins σ H3 { s3 with heap := s3.heap.push { cls := .type "slice", data := .fields #[.none, .none, .int (-1) t'] } } := I3.kept (t' := s3.toks) fun b ob q => Heap.get?_push_of_some _ q
  obtain ⟨its, rv, pl, hz⟩ := I4.list hq
  have hlen := rv.length
  show wpAny (model X.prog X.w) X.A (subscriptTail e (.Slice none none (some c) p2) (.ref a) (.ref s3.heap.objs.size)) (EP X pins σ Q) X.xe { s3 with heap := s3.heap.push { cls := .type "slice", data := .fields #[.none, .none, .int (-1) t'] } }
  refine tail_any (ops := [.ref a, .ref s3.heap.objs.size]) (T := "list") pl.isList.typeIs slot_list_getitem.lookup ?_ (by with_unfolding_all rfl)
  refine wpAny_getItem_list_slice pl.isList (Heap.IsSliceOf.new ..) .none .none (.int (-1) t') (by simp) ?_ (by rw [List.size_toArray] <;> omega)
  refine ⟨.ref _, _, I4.laid (t' := s3.toks) (o := .lst xs.reverse) (fun b ob q => Heap.get?_push_of_some _ q) (Nat.le_refl _) ?_, rfl, q _ (I4.hok.fresh (Nat.le_refl _))⟩
  refine ⟨by rw [List.length_reverse]; exact hz, its.reverse, 0, rv.reverse, ?_⟩
  have e1 : slicePick its.toArray none none (some (-1)) = its.reverse.toArray := by
    apply Array.toList_inj.mp
    rw [pick_rev]
  rw [← e1]
  exact Heap.get?_push_size _ rfl
theorem Reps.rev {K : PySem.W.Frag} {H : Hp} {vs : List V} {l : List PV} (h : Reps K κ H vs l) : Reps K κ H vs.reverse l.reverse := by
  cases h with
  | nil => exact .nil
  | cons r t =>
    rw [List.reverse_cons, List.reverse_cons]
    exact (Reps.rev t).append (.cons r .nil)
theorem do_revL (ha : DB X κ a fa) (hc : DB X κ c (dUn gNeg (dC (.int 1)))) : DO X κ (.Subscript a (.Slice none none (some c) p2) pos) (dUn gRevL fa) := by
  obtain ⟨ta, h1, h2⟩ := ha
  obtain ⟨tc, h3, h4⟩ := hc
  refine ⟨_, pe_revL h1 h3, fun {G A bo own ρ σ H p Q} r e q => ?_⟩
  obtain ⟨p1, e1, e2⟩ := Option.bind_eq_some_iff.mp e
  refine h2 r e1 fun x H1 s1 b1 => h4 (r.mono s1) (p := .int (-1)) rfl fun z H2 s2 b2 => ?_
  cases p1 <;> first | (cases e2; done) | skip
  cases e2
  have s12 := s1.trans s2
  obtain ⟨a, vs, rfl, q1, q2⟩ := (b1.mono' s2).lst hide_full
  refine ⟨a, vs, rfl, b2.int, q1.sq, fun n hn => q _ _ (s12.trans (same_upd hn)) ?_⟩
  obtain ⟨a, ws, l, w1, w2, w3, w4⟩ := (r.mono s12).newO hn q2.rev
  refine ⟨a, ws, l, w1, w2, ?_, w4⟩
  cases w1
  exact s12.free hn
theorem pe_rangeA1 {p pos : Pos} {ta : TA} (hm : X.mg "range" = none) (ha : PA X [a] ta) (hg : Gl X "range" := by rfl) (hs : starEach [a] X.env = (false, eval a X.env) :: starEach [] X.env := by rfl) :
    PE X (.Call (.Name "range" p) [a] [] pos) (fun σ H Q => ta σ H fun vs H1 => ∃ j : Int, vs = [.int j] ∧ ∀ l, H1 l = none → Q (.ref l) (upd H1 l (.rng 0 j))) := by
  intro pins s σ H Q I h
  refine Call_ (ld_blt I hg hm boot_range (PyProof.Rows.callWith_type1 (thn (ha pos pins s σ H _ I h) fun us s1 ⟨vs, H1, I1, r1, q1⟩ => ?_) hs rfl))
  obtain ⟨j, e, q⟩ := q1
  subst e
  obtain ⟨u, rfl, t, rfl⟩ := vals1 r1
  refine call_range_1 ⟨.ref s1.heap.objs.size, _, I1.laid (a := s1.heap.objs.size) (o := .rng 0 j) (t' := s1.toks + 1 + 1) (fun b o e => Heap.get?_push_of_some _ e) (Nat.le_refl _) ?_, rfl, q _ I1.fresh⟩
  exact ⟨_, _, _, Heap.get?_push_size _ rfl⟩
theorem do_listR1 {p pos p2 pos2 : Pos} (ha : DB X κ a fa) (hm : X.mg "list" = none) (hmr : X.mg "range" = none) (hg : Gl X "list" := by rfl) (hgr : Gl X "range" := by rfl) (hc : X.calm = true := by rfl)
    (hs : starEach [.Call (.Name "range" p2) [a] [] pos2] X.env = (false, eval (.Call (.Name "range" p2) [a] [] pos2) X.env) :: starEach [] X.env := by rfl)
    (hs1 : starEach [a] X.env = (false, eval a X.env) :: starEach [] X.env := by rfl) :
    DO X κ (.Call (.Name "list" p) [.Call (.Name "range" p2) [a] [] pos2] [] pos) (dListR (nRng1 fa)) := by
  obtain ⟨ta, h1, h2⟩ := ha
  refine ⟨_, pe_callTy (call_list_rng hc) hg hm PyProof.Rows.boot_list (pa_cons (pe_rangeA1 hmr (pa_cons h1 pa_nil hs1) hgr hs1) pa_nil hs) (he := hs), fun {G A bo own ρ σ H p Q} r e q => ?_⟩
  obtain ⟨l, e1, e2⟩ := Option.bind_eq_some_iff.mp e
  obtain ⟨hlen, rfl⟩ := ite_some e2
  obtain ⟨p1, e3, e4⟩ := Option.bind_eq_some_iff.mp e1
  obtain ⟨j, e5, e6⟩ := Option.bind_eq_some_iff.mp e4
  obtain ⟨hok, e7⟩ := ite_some e6
  subst e7
  refine h2 r e3 fun x H1 s1 b1 => ?_
  cases p1 <;> first | (cases e5; done) | skip
  cases e5
  simp only [rngOk, Bool.and_eq_true, decide_eq_true_eq] at hok
  refine ⟨j, by rw [b1.int], fun l hl => ⟨l, 0, j, rfl, upd_same, ⟨by decide, by decide, hok.1, hok.2⟩, ?_, fun D hD => ?_⟩⟩
  · unfold rangeP at hlen
    rw [List.length_map, List.length_range] at hlen
    rw [Int.sub_zero]
    exact hlen
  · have s12 := s1.trans (same_upd (o := .rng 0 j) hl)
    refine q _ _ (s12.trans (same_upd hD)) ?_
    obtain ⟨a, ws, l, w1, w2, w3, w4⟩ := (r.mono s12).newO hD (ints_rep (κ := κ) (rngI 0 (j - 0).toNat))
    have el : (rngI 0 (j - 0).toNat).map PV.int = rangeP 0 j.toNat := by
      unfold rngI rangeP
      rw [List.map_map, Int.sub_zero]
      rfl
    rw [el] at w2
    refine ⟨a, ws, l, w1, w2, ?_, w4⟩
    cases w1
    exact s12.free hD
end
end L2.D
set_option Elab.async false
set_option linter.all false
set_option maxRecDepth 100000
set_option maxHeartbeats 1000000
namespace L2.D
open PySem PySem.Spec PyProof.Rows PySem.SeqAt
theorem len1 {α : Type} {us : List α} (h : us.length = 1) : ∃ a, us = [a] := List.length_eq_one_iff.mp h
theorem len2 {α : Type} {us : List α} (h : us.length = 2) : ∃ a b, us = [a, b] := match us, h with | [a, b], _ => ⟨a, b, rfl⟩
theorem len3 {α : Type} {us : List α} (h : us.length = 3) : ∃ a b c, us = [a, b, c] := match us, h with | [a, b, c], _ => ⟨a, b, c, rfl⟩
theorem len4 {α : Type} {us : List α} (h : us.length = 4) : ∃ a b c d, us = [a, b, c, d] := match us, h with | [a, b, c, d], _ => ⟨a, b, c, d, rfl⟩
section
variable {X : Cx} {κ : Kl} {a b : Expr} {fa fb : Den}
theorem dVi {i j : Int} : decide (V.int i = V.int j) = decide (i = j) := decide_eq_decide.mpr ⟨V.int.inj, congrArg _⟩
theorem dVs {i j : Str} : decide (V.str i = V.str j) = decide (i = j) := decide_eq_decide.mpr ⟨V.str.inj, congrArg _⟩
theorem dVb {i j : Bool} : decide (V.bl i = V.bl j) = decide (i = j) := decide_eq_decide.mpr ⟨V.bl.inj, congrArg _⟩
theorem gEqF_inv {p q r : PV} (h : gEqF p q = some r) : (∃ i j, p = .int i ∧ q = .int j ∧ r = .bl (decide (i = j))) ∨ (∃ i j, p = .str i ∧ q = .str j ∧ r = .bl (decide (i = j))) ∨ ∃ i j, p = .bl i ∧ q = .bl j ∧ r = .bl (decide (i = j)) := by
  unfold gEqF at h
  split at h
  · cases h; exact .inl ⟨_, _, rfl, rfl, rfl⟩
  · cases h; exact .inr (.inl ⟨_, _, rfl, rfl, rfl⟩)
  · cases h; exact .inr (.inr ⟨_, _, rfl, rfl, rfl⟩)
  · cases h
theorem BR.blv {K : PySem.W.Frag} {hH H : Hp} {v : V} {i : Bool} (h : BR K κ hH H v (.bl i)) : v = .bl i := by
  rcases h with h | ⟨a, vs, l, rfl, e, _⟩
  · cases h; rfl
  · cases e
theorem dc_eqF (ha : DB X κ a fa) (hb : DB X κ b fb) : DC X κ .Eq a b (dBin gEqF fa fb) := by
  obtain ⟨ta, h1, h2⟩ := ha
  obtain ⟨tb, h3, h4⟩ := hb
  refine ⟨_, _, _, op_eq, h1, h3, fun {G A bo own ρ σ H p Q} r e q => ?_⟩
  refine evb2 h2 h4 r e fun x y p1 p2 H' s r' b1 b2 e' => ?_
  rcases gEqF_inv e' with ⟨i, j, rfl, rfl, rfl⟩ | ⟨i, j, rfl, rfl, rfl⟩ | ⟨i, j, rfl, rfl, rfl⟩
  · rw [b1.int, b2.int]
    exact ⟨rfl, q _ H' s (by rw [dVi]; exact .bl _)⟩
  · rw [b1.str, b2.str]
    exact ⟨rfl, q _ H' s (by rw [dVs]; exact .bl _)⟩
  · rw [b1.blv, b2.blv]
    exact ⟨rfl, q _ H' s (by rw [dVb]; exact .bl _)⟩
theorem dc_neF (ha : DB X κ a fa) (hb : DB X κ b fb) : DC X κ .NotEq a b (dBin gNeF fa fb) := by
  obtain ⟨ta, h1, h2⟩ := ha
  obtain ⟨tb, h3, h4⟩ := hb
  refine ⟨_, _, _, op_ne, h1, h3, fun {G A bo own ρ σ H p Q} r e q => ?_⟩
  refine evb2 h2 h4 r e fun x y p1 p2 H' s r' b1 b2 e' => ?_
  obtain ⟨z, e1, e2⟩ := Option.bind_eq_some_iff.mp e'
  rcases gEqF_inv e1 with ⟨i, j, rfl, rfl, rfl⟩ | ⟨i, j, rfl, rfl, rfl⟩ | ⟨i, j, rfl, rfl, rfl⟩
  · rw [b1.int, b2.int]
    cases e2
    exact ⟨rfl, q _ H' s (by rw [dVi]; exact .bl _)⟩
  · rw [b1.str, b2.str]
    cases e2
    exact ⟨rfl, q _ H' s (by rw [dVs]; exact .bl _)⟩
  · rw [b1.blv, b2.blv]
    cases e2
    exact ⟨rfl, q _ H' s (by rw [dVb]; exact .bl _)⟩
end
end L2.D
set_option Elab.async false
set_option linter.all false
set_option maxRecDepth 100000
set_option maxHeartbeats 2000000
namespace L2.D
theorem rng1 {n : Nat} (h : n ≤ 100000) : rngOk (n : Int) = true := by
  unfold rngOk
  simp
  omega
end L2.D
set_option Elab.async false
set_option linter.all false
set_option maxRecDepth 100000
set_option maxHeartbeats 2000000
namespace L2.D
open PySem
theorem intsP_map : ∀ xs : List Int, intsP (xs.map PV.int) = some xs
  | [] => rfl
  | x :: xs => by
    rw [List.map_cons]
    unfold intsP
    rw [intsP_map xs]
    rfl
abbrev pints (l : List Nat) : PV := .lst (l.map fun (n : Nat) => PV.int (n : Int))
theorem forL_eq (g : Tgt) (body : DenS) (x : PV) (xs : List PV) (ρ : Sto) : forL g body (x :: xs) ρ = (g x ρ).bind fun ρ1 => (body ρ1).bind fun f => match f with
    | .nx ρ' => forL g body xs ρ'
    | .ct ρ' => forL g body xs ρ'
    | .bk ρ' => some (.nx ρ')
    | .rt p => some (.rt p) := rfl
end L2.D
set_option linter.all false
namespace L2.D.Sh
open PySem
def g_law_cell_at : DenS := (sSeq (sIf (tV (dBin gLt (dV 1) (dUn gLen (dV 0)))) (sRet (dBin gIx (dV 0) (dV 1))) sNext) (sRet (dC (.int 0))))
end L2.D.Sh
set_option Elab.async false
set_option linter.all false
set_option maxRecDepth 100000
set_option maxHeartbeats 2000000
namespace L2.D
open PySem
abbrev Fca := fn false 2 2 Sh.g_law_cell_at
theorem dComp_eq {it : DenL} {c : DenT} {e : Den} {ρ : Sto} {xs zs : List PV} (h1 : it ρ = some xs) (h2 : xs.length ≤ sizeLine) (h3 : compL c e ρ xs = some zs) : dComp it c e ρ = some (.lst zs) := by
  unfold dComp
  rw [h1]
  show (if xs.length ≤ sizeLine then _ else none) = _
  rw [if_pos h2, h3]
  rfl
theorem sFor_eq {it : DenL} {g : Tgt} {body : DenS} {ρ : Sto} {xs : List PV} (h : it ρ = some xs) : sFor it g body ρ = forL g body xs ρ := by
  unfold sFor
  rw [h]
  rfl
theorem nList_eq {a : Den} {ρ : Sto} {l : List PV} (h : a ρ = some (.lst l)) : nList a ρ = some l := by
  unfold nList
  rw [h]
  rfl
theorem sSeq_nx {a b : DenS} {ρ ρ' : Sto} (h : a ρ = some (.nx ρ')) : sSeq a b ρ = b ρ' := by
  unfold sSeq
  rw [h]
  rfl
theorem sSeq_rt {a b : DenS} {ρ : Sto} {p : PV} (h : a ρ = some (.rt p)) : sSeq a b ρ = some (.rt p) := by
  unfold sSeq
  rw [h]
  rfl
theorem sIf_t {t : DenT} {a b : DenS} {ρ : Sto} (h : t ρ = some true) : sIf t a b ρ = a ρ := by
  unfold sIf
  rw [h]
  rfl
theorem sIf_f {t : DenT} {a b : DenS} {ρ : Sto} (h : t ρ = some false) : sIf t a b ρ = b ρ := by
  unfold sIf
  rw [h]
  rfl
theorem sSet_eq {i : Nat} {a : Den} {ρ : Sto} {p : PV} (h : a ρ = some p) : sSet i a ρ = some (.nx (ρ.set i (.sh p))) := by
  unfold sSet
  rw [h]
  rfl
theorem sSetO_eq {i : Nat} {a : Den} {ρ : Sto} {l : List PV} (h : a ρ = some (.lst l)) : sSetO i a ρ = some (.nx (ρ.set i (.ow l))) := by
  unfold sSetO
  rw [h]
  rfl
theorem sRet_eq {a : Den} {ρ : Sto} {p : PV} (h : a ρ = some p) : sRet a ρ = some (.rt p) := by
  unfold sRet
  rw [h]
  rfl
theorem dCall_eq {F : List PV → Option PV} {as : DenL} {ρ : Sto} {ps : List PV} (h : as ρ = some ps) : dCall F as ρ = F ps := by
  unfold dCall
  rw [h]
  rfl
theorem tV_eq {a : Den} {ρ : Sto} {b : Bool} (h : a ρ = some (.bl b)) : tV a ρ = some b := by
  unfold tV
  rw [h]
  rfl
theorem tNot_eq {t : DenT} {ρ : Sto} {b : Bool} (h : t ρ = some b) : tNot t ρ = some (!b) := by
  unfold tNot
  rw [h]
  rfl
theorem tOr_f {a b : DenT} {ρ : Sto} (h : a ρ = some false) : tOr a b ρ = b ρ := by
  unfold tOr
  rw [h]
  rfl
theorem tOr_t {a b : DenT} {ρ : Sto} (h : a ρ = some true) : tOr a b ρ = some true := by
  unfold tOr
  rw [h]
  rfl
theorem dBin_eq {g : PV → PV → Option PV} {a b : Den} {ρ : Sto} {x y : PV} (h1 : a ρ = some x) (h2 : b ρ = some y) : dBin g a b ρ = g x y := by
  unfold dBin
  rw [h1]
  show (b ρ).bind _ = _
  rw [h2]
  rfl
theorem dUn_eq {g : PV → Option PV} {a : Den} {ρ : Sto} {x : PV} (h1 : a ρ = some x) : dUn g a ρ = g x := by
  unfold dUn
  rw [h1]
  rfl
theorem nRng1_eq {a : Den} {ρ : Sto} {j : Int} (h1 : a ρ = some (.int j)) (h2 : rngOk j = true) : nRng1 a ρ = some (rangeP 0 j.toNat) := by
  unfold nRng1
  rw [h1]
  simp only [Option.bind_some, toI]
  rw [if_pos h2]
theorem fn_rt {fr : Bool} {n k : Nat} {body : DenS} {ps : List PV} {p : PV} (h : ps.length = k) (e : body (startP n ps) = some (.rt p)) : fn fr n k body ps = some p := by
  unfold fn
  rw [if_pos h, e]
  rfl
theorem cell_eq (ns : List Int) (k : Nat) : Fca [.lst (ns.map PV.int), .int k] = some (.int (ns.getD k 0)) := by
  have t : tV (dBin gLt (dV 1) (dUn gLen (dV 0))) [.sh (.lst (ns.map PV.int)), .sh (.int k)] = some (decide (k < ns.length)) := by
    refine tV_eq ((dBin_eq (x := .int k) (y := .int ((ns.map PV.int).length : Nat)) rfl rfl).trans ?_)
    show some (PV.bl (decide ((k : Int) < (((ns.map PV.int).length : Nat) : Int)))) = _
    rw [List.length_map]
    congr 2
    rw [decide_eq_decide]
    omega
  by_cases h : k < ns.length
  · rw [decide_eq_true h] at t
    have e : itemAt (ns.map PV.int) (k : Int) = some (.int (ns.getD k 0)) := by simp [itemAt, ixP, h]
    exact fn_rt rfl (sSeq_rt ((sIf_t t).trans (sRet_eq ((dBin_eq (x := .lst (ns.map PV.int)) (y := .int k) rfl rfl).trans e))))
  · rw [decide_eq_false h] at t
    have h2 : ns.getD k 0 = 0 := by
      rw [List.getD_eq_getElem?_getD, List.getElem?_eq_none (by omega)]
      rfl
    rw [h2]
    exact fn_rt rfl ((sSeq_nx ((sIf_f t).trans rfl)).trans (sRet_eq rfl))
theorem fn_ret {fr : Bool} {n k : Nat} {f : Den} {ps : List PV} {p : PV} (h : ps.length = k) (e : f (startP n ps) = some p) : fn fr n k (sRet f) ps = some p := by
  unfold fn
  rw [if_pos h]
  unfold sRet
  rw [e]
  rfl
abbrev pl (l : List Nat) : List PV := l.map fun (n : Nat) => PV.int (n : Int)
theorem intsP_pl (l : List Nat) : intsP (pl l) = some (l.map fun (n : Nat) => (n : Int)) := by
  have : pl l = (l.map fun (n : Nat) => (n : Int)).map PV.int := by
    rw [List.map_map]
    rfl
  rw [this, intsP_map]
end L2.D
set_option Elab.async false
set_option linter.all false
set_option maxRecDepth 100000
set_option maxHeartbeats 2000000
namespace L2.D
open PySem
theorem cutP_map {α β : Type} (f : α → β) (l : List α) (lo hi : Option Int) : cutP (l.map f) lo hi = (cutP l lo hi).map f := by
  unfold cutP
  rw [List.length_map, ← List.map_drop, ← List.map_take]
abbrev scr (ns : List Int) : PV := .lst (ns.map PV.int)
end L2.D
set_option linter.all false
set_option maxHeartbeats 4000000
set_option maxRecDepth 100000
set_option Elab.async false
set_option linter.all false
set_option maxRecDepth 100000
set_option maxHeartbeats 2000000
namespace L2.D
open PySem
theorem gMod_nat (x : Int) {n : Nat} (h : 0 < n) : gMod (.int x) (.int n) = some (.int (((x % (n : Int)).toNat : Nat) : Int)) := by
  show (if decide (0 < (n : Int)) then some (PV.int (x % (n : Int))) else none) = _
  rw [if_pos (decide_eq_true (by omega))]
  have := Int.emod_nonneg x (show (n : Int) ≠ 0 by omega)
  congr 2
  omega
theorem mod_lt (x : Int) {n : Nat} (h : 0 < n) : (x % (n : Int)).toNat < n := by
  have := Int.emod_lt_of_pos x (show (0 : Int) < n by omega)
  omega
theorem rangeP_nat (n : Nat) : rangeP 0 n = pl (List.range n) := by
  unfold rangeP
  refine List.map_congr_left fun k _ => ?_
  rw [Int.zero_add]
theorem nRng_nat {a : Den} {ρ : Sto} {n : Nat} (h : a ρ = some (.int n)) (hn : n ≤ 100000) : nRng1 a ρ = some (pl (List.range n)) := by
  rw [nRng1_eq h (rng1 hn), Int.toNat_natCast, rangeP_nat]
theorem whileN_f {t : DenT} {body : DenS} {n : Nat} {ρ : Sto} (h : t ρ = some false) : whileN t body (n + 1) ρ = some (.nx ρ) := by
  unfold whileN
  rw [h]
  rfl
theorem whileN_t {t : DenT} {body : DenS} {n : Nat} {ρ ρ' : Sto} (h : t ρ = some true) (hb : body ρ = some (.nx ρ')) : whileN t body (n + 1) ρ = whileN t body n ρ' := by
  conv => lhs; unfold whileN
  rw [h]
  show (body ρ).bind _ = _
  rw [hb]
  rfl
end L2.D
set_option Elab.async false
set_option linter.all false
set_option maxRecDepth 100000
set_option maxHeartbeats 2000000
set_option Elab.async false
set_option linter.all false
set_option maxRecDepth 100000
set_option maxHeartbeats 2000000
namespace L2.D
open PySem
theorem dCons_eq {a : Den} {as : DenL} {ρ : Sto} {x : PV} {xs : List PV} (h1 : a ρ = some x) (h2 : as ρ = some xs) : dCons a as ρ = some (x :: xs) := by
  unfold dCons
  rw [h1, h2]
  rfl
theorem dLst_eq {as : DenL} {ρ : Sto} {xs : List PV} (h : as ρ = some xs) (hl : xs.length ≤ 5000) : dLst as ρ = some (.lst xs) := by
  have zl : (5000 : Nat) ≤ sizeLine := by decide
  unfold dLst
  rw [h]
  show (if xs.length ≤ sizeLine then some (PV.lst xs) else none) = _
  rw [if_pos (by omega)]
end L2.D
set_option Elab.async false
set_option linter.all false
set_option maxRecDepth 100000
set_option maxHeartbeats 2000000
set_option Elab.async false
set_option linter.all false
set_option maxRecDepth 100000
set_option maxHeartbeats 2000000
set_option Elab.async false
set_option linter.all false
set_option maxRecDepth 100000
set_option maxHeartbeats 2000000
set_option Elab.async false
set_option linter.all false
set_option maxRecDepth 100000
set_option maxHeartbeats 2000000
namespace L2.D
open PySem
theorem app_len (a b : Str) : (a ++ b).length = a.length + b.length := by
  show (a.cps ++ b.cps).size = _
  rw [Array.size_append]
  rfl
theorem fm_le {α β : Type} (f : α → Option β) : ∀ l : List α, (l.filterMap f).length ≤ l.length
  | [] => Nat.le_refl _
  | x :: l => by
    have := fm_le f l
    rw [List.filterMap_cons]
    split
    · rw [List.length_cons]; omega
    · rw [List.length_cons, List.length_cons]; omega
theorem cut_le (x : Str) (lo hi : Option Int) {st : Int} (h0 : st ≠ 0) : (cutS x lo hi st).length ≤ x.length := by
  unfold cutS
  split
  · exact Nat.le_refl _
  · show ((Builtin.Str.strSliceIndices lo hi st x.length).filterMap (x.cps[·]?)).toArray.size ≤ _
    rw [List.size_toArray]
    have h1 := fm_le (x.cps[·]?) (Builtin.Str.strSliceIndices lo hi st x.length)
    have h2 := sliceIndicesBy_le lo hi st h0 x.length
    omega
theorem fm_all {α β : Type} (f : α → Option β) : ∀ l : List α, (∀ x ∈ l, (f x).isSome = true) → (l.filterMap f).length = l.length
  | [], _ => rfl
  | x :: l, h => by
    have ih := fm_all f l fun y hy => h y (List.mem_cons_of_mem _ hy)
    obtain ⟨z, hz⟩ := Option.isSome_iff_exists.mp (h x (List.mem_cons_self ..))
    rw [List.filterMap_cons, hz, List.length_cons, List.length_cons, ih]
theorem cut_to (x : Str) (n : Nat) (h : n ≤ x.length) : (cutS x none (some (n : Int)) 1).length = n := by
  have e : Builtin.Str.strSliceIndices none (some (n : Int)) 1 x.length = (List.range n).map (0 + ·) := by
    have := PySem.sliceRange_one 0 n
    rw [Nat.sub_zero] at this
    rw [← this]
    unfold Builtin.Str.strSliceIndices
    simp only
    congr 1
    rw [if_pos (by decide), if_neg (by omega)]
    omega
  unfold cutS
  rw [e]
  split
  · rename_i hh
    rw [Bool.and_eq_true, beq_iff_eq, beq_iff_eq, List.length_map, List.length_range] at hh
    omega
  · show (((List.range n).map (0 + ·)).filterMap (x.cps[·]?)).toArray.size = n
    rw [List.size_toArray, fm_all, List.length_map, List.length_range]
    intro i hi
    obtain ⟨k, hk, rfl⟩ := List.mem_map.mp hi
    have := List.mem_range.mp hk
    have hl : 0 + k < x.cps.size := by
      have : x.cps.size = x.length := rfl
      omega
    have hl' : k < x.cps.size := by omega
    simp [hl']
def alph : Str := "abcdefghijklmnopqrstuvwxyz"
theorem alph_chk : ((List.range 26).all fun i => (itemAt alph.cps.toList (i : Int)).isSome) = true := by decide +kernel
theorem alph_len : alph.length = 26 := by decide +kernel
theorem alph_ix {i : Nat} (h : i < 26) : ∃ y : Str, y.length = 1 ∧ gIx (.str alph) (.int i) = some (.str y) := by
  have zl : (5000 : Nat) ≤ sizeLine := by decide
  obtain ⟨c, hc⟩ := Option.isSome_iff_exists.mp (List.all_eq_true.mp alph_chk i (List.mem_range.mpr h))
  refine ⟨⟨#[c]⟩, rfl, ?_⟩
  show (if alph.length ≤ sizeLine then (itemAt alph.cps.toList (i : Int)).map (fun c => PV.str ⟨#[c]⟩) else none) = _
  rw [if_pos (by rw [alph_len]; omega), hc]
  rfl
theorem str_ix {x : Str} {i : Nat} (h : i < x.length) (hx : x.length ≤ 5000) : ∃ y : Str, y.length = 1 ∧ gIx (.str x) (.int i) = some (.str y) := by
  have zl : (5000 : Nat) ≤ sizeLine := by decide
  have hl : i < x.cps.toList.length := by
    rw [Array.length_toList]
    exact h
  have : itemAt x.cps.toList (i : Int) = some (x.cps.toList[i]'hl) := by
    unfold itemAt ixP
    rw [if_pos (by omega), if_pos (by omega)]
    show x.cps.toList[(i : Int).toNat]? = _
    rw [Int.toNat_natCast, List.getElem?_eq_getElem hl]
  refine ⟨⟨#[x.cps.toList[i]'hl]⟩, rfl, ?_⟩
  show (if x.length ≤ sizeLine then (itemAt x.cps.toList (i : Int)).map (fun c => PV.str ⟨#[c]⟩) else none) = _
  rw [if_pos (by omega), this]
  rfl
theorem gAdd_str (a b : Str) (h : a.length + b.length ≤ 100000) : gAdd (.str a) (.str b) = some (.str (a ++ b)) := by
  have zl : (100000 : Nat) ≤ sizeLine := by decide
  show (if a.length + b.length ≤ sizeLine then some (PV.str (a ++ b)) else none) = _
  rw [if_pos (by omega)]
theorem dSlA_str {A : Den} {lo hi : DenO} {ρ : Sto} {y : Str} {l h : Option Int} (hA : A ρ = some (.str y)) (hl : lo ρ = some l) (hh : hi ρ = some h) (hy : y.length ≤ 100000) : dSlA A lo hi ρ = some (.str (cutS y l h 1)) := by
  have zl : (100000 : Nat) ≤ sizeLine := by decide
  unfold dSlA
  rw [hA, hl, hh]
  show (if y.length ≤ sizeLine then some (PV.str (cutS y l h 1)) else none) = _
  rw [if_pos (by omega)]
theorem mul_small {a b : Int} (h1 : -100000000000 ≤ a) (h2 : a ≤ 100000000000) : gMul (.int a) (.int b) = some (.int (a * b)) := by
  have : mulOk a b = true := by
    unfold mulOk
    rw [Bool.or_eq_true, Bool.and_eq_true]
    exact .inl ⟨decide_eq_true (by omega), decide_eq_true (by omega)⟩
  show (if mulOk a b then some (PV.int (a * b)) else none) = _
  rw [if_pos this]
theorem gMod_pos (a : Int) {n : Int} (h : 0 < n) : gMod (.int a) (.int n) = some (.int (a % n)) := by
  show (if decide (0 < n) then some (PV.int (a % n)) else none) = _
  rw [if_pos (decide_eq_true h)]
end L2.D
set_option Elab.async false
set_option linter.all false
set_option maxRecDepth 100000
set_option maxHeartbeats 2000000
namespace L2.D
open PySem
structure It where
  o : PV
  s : PV
  t : Str
  d : Nat
def It.p (i : It) : PV := .tup [i.o, i.s, .str i.t, .int (i.d : Nat)]
def wt (l : List It) : Nat := (l.map fun i => i.t.length + 2).sum
theorem wt_app (l m : List It) : wt (l ++ m) = wt l + wt m := by
  unfold wt
  rw [List.map_append, List.sum_append]
theorem wt_one (i : It) : wt [i] = i.t.length + 2 := by
  unfold wt
  simp
theorem wt_cons (i : It) (l : List It) : wt (i :: l) = i.t.length + 2 + wt l := by
  unfold wt
  rw [List.map_cons, List.sum_cons]
theorem compT_of {α : Type} {e : Den} {ρ : Sto} (v f : α → PV) : ∀ (xs : List α), (∀ x ∈ xs, e (.sh (v x) :: ρ) = some (f x)) → compL tTrue e ρ (xs.map v) = some (xs.map f)
  | [], _ => rfl
  | x :: xs, h => by
    have ih := compT_of v f xs fun y hy => h y (List.mem_cons_of_mem _ hy)
    show ((some true).bind fun b => if b then (e (.sh (v x) :: ρ)).bind fun z => (compL tTrue e ρ (xs.map v)).map (z :: ·) else compL tTrue e ρ (xs.map v)) = _
    rw [h x (List.mem_cons_self ..), ih]
    rfl
theorem dComp_of {α : Type} {it : DenL} {e : Den} {ρ : Sto} (v f : α → PV) {xs : List α} (h1 : it ρ = some (xs.map v)) (h2 : xs.length ≤ 5000) (h3 : ∀ x ∈ xs, e (.sh (v x) :: ρ) = some (f x)) : dComp it tTrue e ρ = some (.lst (xs.map f)) := by
  have zl : (5000 : Nat) ≤ sizeLine := by decide
  exact dComp_eq h1 (by rw [List.length_map]; omega) (compT_of v f xs h3)
theorem strsP_map : ∀ ts : List Str, strsP (ts.map PV.str) = some ts
  | [] => rfl
  | t :: ts => by
    show (strsP (ts.map PV.str)).map (t :: ·) = _
    rw [strsP_map ts]
    rfl
theorem joinOk_of (sep : Str) (ts : List Str) (h : (ts.map fun t => t.length + sep.length).sum ≤ 100000) : JoinOk sep ts = true := by
  have zl : (100000 : Nat) ≤ sizeLine := by decide
  have key : ∀ (ts : List Str) (a : Nat), ts.foldl (fun acc t => acc + t.length + sep.length) a = a + (ts.map fun t => t.length + sep.length).sum := by
    intro ts
    induction ts with
    | nil => intro a; rfl
    | cons t ts ih =>
      intro a
      rw [List.foldl_cons, ih, List.map_cons, List.sum_cons]
      omega
  unfold JoinOk Builtin.Str.tooLong
  rw [List.foldl_toArray', key]
  · simp
    omega
  · rfl
theorem join_le (sep : Str) : ∀ ts : List Str, (Txt.join sep ts).length ≤ (ts.map fun t => t.length + sep.length).sum
  | [] => Nat.zero_le _
  | t :: ts => by
    have key : ∀ (ts : List Str) (a : Array Nat), (ts.foldl (fun acc (p : Str) => acc ++ sep.cps ++ p.cps) a).size = a.size + (ts.map fun t => t.length + sep.length).sum := by
      intro ts
      induction ts with
      | nil => intro a; rfl
      | cons t ts ih =>
        intro a
        rw [List.foldl_cons, ih, List.map_cons, List.sum_cons, Array.size_append, Array.size_append]
        have : t.cps.size = t.length := rfl
        have : sep.cps.size = sep.length := rfl
        omega
    show (ts.foldl (fun acc (p : Str) => acc ++ sep.cps ++ p.cps) t.cps).size ≤ _
    rw [key, List.map_cons, List.sum_cons]
    have : t.cps.size = t.length := rfl
    omega
theorem gJoin_str (sep : Str) (ts : List Str) (h : (ts.map fun t => t.length + sep.length).sum ≤ 100000) : gJoin (.str sep) (.lst (ts.map PV.str)) = some (.str (Txt.join sep ts)) := by
  show (strsP (ts.map PV.str)).bind _ = _
  rw [strsP_map]
  show (if JoinOk sep ts then some (PV.str (Txt.join sep ts)) else none) = _
  rw [if_pos (joinOk_of sep ts h)]
theorem fold_max : ∀ (ds : List Nat) (a : Nat), ∃ M : Nat, (ds.map fun (n : Nat) => (n : Int)).foldl (fun a b => if b > a then b else a) (a : Int) = (M : Int) ∧ a ≤ M ∧ (∀ x ∈ ds, x ≤ M) ∧ (M = a ∨ M ∈ ds)
  | [], a => ⟨a, rfl, Nat.le_refl _, by simp, .inl rfl⟩
  | d :: ds, a => by
    rw [List.map_cons, List.foldl_cons]
    by_cases h : d > a
    · have e : (if (d : Int) > (a : Int) then (d : Int) else (a : Int)) = (d : Int) := if_pos (by omega)
      rw [e]
      obtain ⟨M, h1, h2, h3, h4⟩ := fold_max ds d
      refine ⟨M, h1, by omega, fun x hx => ?_, ?_⟩
      · rcases List.mem_cons.mp hx with rfl | hx
        · exact h2
        · exact h3 x hx
      · rcases h4 with rfl | h4
        · exact .inr (List.mem_cons_self ..)
        · exact .inr (List.mem_cons_of_mem _ h4)
    · have e : (if (d : Int) > (a : Int) then (d : Int) else (a : Int)) = (a : Int) := if_neg (by omega)
      rw [e]
      obtain ⟨M, h1, h2, h3, h4⟩ := fold_max ds a
      refine ⟨M, h1, h2, fun x hx => ?_, ?_⟩
      · rcases List.mem_cons.mp hx with rfl | hx
        · omega
        · exact h3 x hx
      · rcases h4 with rfl | h4
        · exact .inl rfl
        · exact .inr (List.mem_cons_of_mem _ h4)
theorem gMax_nat (ds : List Nat) (h : ds ≠ []) : ∃ M : Nat, gMaxL (pints ds) = some (.int (M : Nat)) ∧ (∀ x ∈ ds, x ≤ M) ∧ M ∈ ds := by
  cases ds with
  | nil => exact absurd rfl h
  | cons d ds =>
    obtain ⟨M, h1, h2, h3, h4⟩ := fold_max ds d
    refine ⟨M, ?_, fun x hx => ?_, ?_⟩
    · show (intsP (pl (d :: ds))).bind _ = _
      rw [intsP_pl]
      show (some ((ds.map fun (n : Nat) => (n : Int)).foldl (fun a b => if b > a then b else a) (d : Int))).map PV.int = _
      rw [h1]
      rfl
    · rcases List.mem_cons.mp hx with rfl | hx
      · exact h2
      · exact h3 x hx
    · rcases h4 with rfl | h4
      · exact List.mem_cons_self ..
      · exact List.mem_cons_of_mem _ h4
theorem cut_last {α : Type} (l : List α) (j : Nat) (h : 0 < j) : cutP l (some (-(j : Int))) none = l.drop (l.length - j) := by
  unfold cutP sIxP
  simp only
  rw [if_pos (by omega)]
  have : (-(j : Int) + (l.length : Int)).toNat = l.length - j := by omega
  rw [this, List.take_of_length_le (by rw [List.length_drop]; exact Nat.le_refl _)]
theorem cut_but {α : Type} (l : List α) (j : Nat) (h : 0 < j) : cutP l none (some (-(j : Int))) = l.take (l.length - j) := by
  unfold cutP sIxP
  simp only
  rw [if_pos (by omega)]
  have : (-(j : Int) + (l.length : Int)).toNat = l.length - j := by omega
  rw [this, List.drop_zero, Nat.sub_zero]
theorem cut_head {α : Type} (l : List α) (j : Nat) (h : j ≤ l.length) : cutP l none (some (j : Int)) = l.take j := by
  unfold cutP sIxP
  simp only
  rw [if_neg (by omega), List.drop_zero, Nat.sub_zero, Int.toNat_natCast, Nat.min_eq_left h]
theorem dSl_eq {A : Den} {lo hi : DenO} {ρ : Sto} {l : List PV} {a b : Option Int} (hA : A ρ = some (.lst l)) (hl : lo ρ = some a) (hh : hi ρ = some b) : dSl A lo hi ρ = some (.lst (cutP l a b)) := by
  unfold dSl
  rw [hA, hl, hh]
  rfl
theorem dTup_eq {as : DenL} {ρ : Sto} {xs : List PV} (h : as ρ = some xs) (hl : xs.length ≤ 5000) : dTup as ρ = some (.tup xs) := by
  have zl : (5000 : Nat) ≤ sizeLine := by decide
  unfold dTup
  rw [h]
  show (if xs.length ≤ sizeLine then some (PV.tup xs) else none) = _
  rw [if_pos (by omega)]
end L2.D
set_option Elab.async false
set_option linter.all false
set_option maxRecDepth 100000
set_option maxHeartbeats 2000000
namespace L2.D.My
open PySem
def g_within : DenS := (sRet (dBin gEqF (dBin gAnd (dV 0) (dV 1)) (dV 0)))
def F_within : List PV → Option PV := fn false 2 2 (g_within)
def b_group_of_1 : DenS := (sSeq (sIf (tV (dBin gNotIn (dV 3) (dV 0))) sNever sNext) (sSet 2 (dBin gOr (dV 2) (dBin gShl (dC (.int 1)) (dBin gIndex (dV 0) (dV 3))))))
def g_group_of : DenS := (sSeq (sSet 2 (dC (.int 0))) (sSeq (sFor (nList (dVS 1)) (gtName 3) b_group_of_1) (sRet (dVS 2))))
def F_group_of : List PV → Option PV := fn false 4 2 (g_group_of)
def g_Counting__lets (T_lets : Nat → List PV → Option PV) : DenS := (sSeq (sSet 3 (dComp (nTup (dUn (fldP ftR "parts") (dV 0))) (tV (dMeth T_lets (dVS 0) (dCons (dVS 2) (dCons (dVS 3) dNil)))) (dVS 0))) (sRet (dBin gGe (dUn gLen (dV 3)) (dUn (fldP ftR "wanted") (dV 0)))))
def g_Hand__lets (F_within F_group_of : List PV → Option PV) : DenS := (sRet (dCall F_within (dCons (dCall F_group_of (dCons (dVS 1) (dCons (dLst (dCons (dUn (fldP ftR "name") (dV 0)) dNil)) dNil))) (dCons (dVS 2) dNil))))
def Tr_lets : Nat → Nat → List PV → Option PV
  | 0, _ => fun _ => none
  | n + 1, 0 => fn false 3 3 (g_Hand__lets F_within F_group_of)
  | n + 1, 1 => fn false 4 3 (g_Counting__lets (Tr_lets n))
  | n + 1, 2 => fn false 4 3 (g_Counting__lets (Tr_lets n))
  | n + 1, 3 => fn false 4 3 (g_Counting__lets (Tr_lets n))
  | _ + 1, _ => fun _ => none
def T_lets : Nat → List PV → Option PV := Tr_lets 24
def g_law_cell_at : DenS := (sSeq (sIf (tV (dBin gLt (dV 1) (dUn gLen (dV 0)))) (sRet (dBin gIx (dV 0) (dV 1))) sNext) (sRet (dC (.int 0))))
def F_law_cell_at : List PV → Option PV := fn false 2 2 (g_law_cell_at)
def g_law_name : DenS := (sSeq (sSet 4 (dC (.str "abcdefghijklmnopqrstuvwxyz"))) (sSeq (sSet 5 (dBin gIx (dV 4) (dBin gMod (dBin gAdd (dBin gFind (dV 4) (dBin gIx (dV 0) (dV 1))) (dBin gMul (dC (.int 3)) (dV 3))) (dC (.int 26))))) (sRet (dBin gAdd (dBin gAdd (dSlA (dV 0) oNone (oSome (dV 1))) (dV 5)) (dSlA (dV 0) (oSome (dBin gAdd (dV 1) (dC (.int 1)))) (oSome (dV 2)))))))
def F_law_name : List PV → Option PV := fn false 6 4 (g_law_name)
def b_law_base_1 : DenS := (sSeq (sSet 2 (dBin gMod (dBin gAdd (dBin gAdd (dBin gAdd (dBin gMul (dV 2) (dV 2)) (dBin gMul (dC (.int 48271)) (dV 2))) (dV 4)) (dC (.int 1))) (dC (.int 2147483647)))) (sSet 3 (dBin gAdd (dV 3) (dBin gIx (dC (.str "abcdefghijklmnopqrstuvwxyz")) (dBin gMod (dV 2) (dC (.int 26)))))))
def g_law_base : DenS := (sSeq (sSet 2 (dBin gMod (dBin gAdd (dBin gMul (dBin gMod (dV 0) (dC (.int 2147483647))) (dC (.int 16807))) (dC (.int 11))) (dC (.int 2147483647)))) (sSeq (sSet 3 (dC (.str ""))) (sSeq (sFor (nRng1 (dV 1)) (gtName 4) b_law_base_1) (sRet (dVS 3)))))
def F_law_base : List PV → Option PV := fn false 5 2 (g_law_base)
def b_law_names_1 (F_law_cell_at F_law_name F_law_base : List PV → Option PV) : DenS := (sSeq (sSet 10 (dCall F_law_name (dCons (dVS 7) (dCons (dBin gMod (dBin gDiv (dV 3) (dC (.int 80))) (dV 4)) (dCons (dVS 4) (dCons (dVS 9) dNil)))))) (sSeq (sIf (tV (dBin gEqF (dBin gMod (dBin gDiv (dV 3) (dC (.int 20))) (dC (.int 4))) (dC (.int 1)))) (sSet 10 (dSlA (dV 7) oNone (oSome (dBin gAdd (dV 9) (dC (.int 1)))))) sNext) (sSeq (sIf (tV (dBin gIn (dV 10) (dTup (dCons (dC (.str "all")) (dCons (dC (.str "any")) (dCons (dC (.str "of")) dNil)))))) (sSet 10 (dUn gRev (dV 10))) sNext) (sMut 8 mAppend (dCons (dVS 10) dNil)))))
def g_law_names (F_law_cell_at F_law_name F_law_base : List PV → Option PV) : DenS := (sSeq (sSet 3 (dCall F_law_cell_at (dCons (dVS 0) (dCons (dVS 1) dNil)))) (sSeq (sSet 4 (dBin gAdd (dC (.int 1)) (dBin gMod (dV 3) (dC (.int 20))))) (sSeq (sSet 5 (dCall F_law_cell_at (dCons (dVS 0) (dCons (dBin gAdd (dV 1) (dC (.int 1))) dNil)))) (sSeq (sSet 6 (dBin gIx (dLst (dCons (dC (.str "")) (dCons (dC (.str "")) (dCons (dC (.str "all")) (dCons (dC (.str "")) (dCons (dC (.str "any")) (dCons (dC (.str "")) (dCons (dC (.str "of")) (dCons (dC (.str "al")) dNil))))))))) (dBin gMod (dV 5) (dC (.int 8))))) (sSeq (sSet 7 (dSlA (dBin gAdd (dV 6) (dCall F_law_base (dCons (dBin gDiv (dV 5) (dC (.int 8))) (dCons (dC (.int 20)) dNil)))) oNone (oSome (dC (.int 20))))) (sSeq (sSetO 8 (dLst dNil)) (sSeq (sFor (nRng1 (dV 2)) (gtName 9) (b_law_names_1 F_law_cell_at F_law_name F_law_base)) (sRetV 8))))))))
def F_law_names : List PV → Option PV := fn true 11 3 (g_law_names F_law_cell_at F_law_name F_law_base)
def g_law_roll (F_law_names F_law_cell_at : List PV → Option PV) : DenS := (sRet (dUn gTuple (dCall F_law_names (dCons (dVS 0) (dCons (dC (.int 2)) (dCons (dBin gAdd (dC (.int 1)) (dBin gMod (dCall F_law_cell_at (dCons (dVS 0) (dCons (dC (.int 0)) dNil))) (dC (.int 6)))) dNil))))))
def F_law_roll : List PV → Option PV := fn false 1 1 (g_law_roll F_law_names F_law_cell_at)
def g_law_counted : DenS := (sSeq (sSetO 3 (dComp (nList (dV 2)) tTrue (dBin gIx (dV 0) (dC (.int 0))))) (sSeq (sSet 4 (dUn gTuple (dComp (nList (dV 2)) tTrue (dBin gIx (dV 0) (dC (.int 1)))))) (sSeq (sSet 5 (dBin gAdd (dBin gJoin (dC (.str ", ")) (dComp (nList (dV 2)) tTrue (dBin gIx (dV 0) (dC (.int 2))))) (dC (.str ")")))) (sSeq (sSet 6 (dBin gAdd (dC (.int 1)) (dUn gMaxL (dComp (nList (dV 2)) tTrue (dBin gIx (dV 0) (dC (.int 3))))))) (sSeq (sIf (tV (dBin gEqF (dV 0) (dC (.int 0)))) (sSet 7 (dTup (dCons (dUn gAllO (dV 3)) (dCons (dTup (dCons (dC (.str "all")) (dCons (dVS 4) dNil))) (dCons (dBin gAdd (dC (.str "all(")) (dV 5)) (dCons (dVS 6) dNil)))))) (sIf (tV (dBin gEqF (dV 0) (dC (.int 1)))) (sSet 7 (dTup (dCons (dUn gAnyO (dV 3)) (dCons (dTup (dCons (dC (.str "any")) (dCons (dVS 4) dNil))) (dCons (dBin gAdd (dC (.str "any(")) (dV 5)) (dCons (dVS 6) dNil)))))) (sSet 7 (dTup (dCons (dBin gSomeO (dV 1) (dV 3)) (dCons (dTup (dCons (dC (.str "some")) (dCons (dVS 1) (dCons (dVS 4) dNil)))) (dCons (dBin gAdd (dBin gAdd (dUn gStr (dV 1)) (dC (.str " of ("))) (dV 5)) (dCons (dVS 6) dNil)))))))) (sSeq (sMut 3 mClear dNil) (sRet (dVS 7))))))))
def F_law_counted : List PV → Option PV := fn false 8 3 (g_law_counted)
def b_law_folded_1 (F_law_counted : List PV → Option PV) : DenS := (sSeq (sSet 2 (dBin gMod (dBin gAdd (dBin gMul (dV 2) (dV 2)) (dBin gMul (dC (.int 48271)) (dV 2))) (dC (.int 2147483647)))) (sSeq (sSet 3 (dSl (dV 0) (oSome (dUn gNeg (dC (.int 8)))) oNone)) (sSeq (sSetO 0 (dSl (dV 0) oNone (oSome (dUn gNeg (dC (.int 8)))))) (sMut 0 mAppend (dCons (dCall F_law_counted (dCons (dBin gMod (dV 2) (dC (.int 3))) (dCons (dBin gAdd (dC (.int 1)) (dBin gMod (dBin gDiv (dV 2) (dC (.int 3))) (dUn gLen (dV 3)))) (dCons (dVS 3) dNil)))) dNil)))))
def g_law_folded (F_law_counted : List PV → Option PV) : DenS := (sSeq (sSet 2 (dBin gAdd (dC (.int 1)) (dBin gMod (dV 1) (dC (.int 2147483646))))) (sSeq (whileN (tV (dBin gGt (dUn gLen (dV 0)) (dC (.int 1)))) (b_law_folded_1 F_law_counted) 1000) (sRet (dBin gIx (dV 0) (dC (.int 0))))))
def F_law_folded : List PV → Option PV := fn false 4 2 (g_law_folded F_law_counted)
def g_law_hand : DenS := (sRet (dTup (dCons (dUn gHand (dV 0)) (dCons (dTup (dCons (dC (.str "hand")) (dCons (dVS 0) dNil))) (dCons (dVS 0) (dCons (dC (.int 0)) dNil))))))
def F_law_hand : List PV → Option PV := fn false 1 1 (g_law_hand)
def b_law_built_1 (F_law_folded F_law_hand F_law_cell_at F_law_counted : List PV → Option PV) : DenS := (sSeq (sSet 7 (dSl (dV 4) (oSome (dUn gNeg (dBin gAdd (dC (.int 1)) (dBin gMod (dBin gDiv (dV 6) (dC (.int 9))) (dC (.int 8)))))) oNone)) (sSeq (sSet 8 (dUn gMaxL (dComp (nList (dV 7)) tTrue (dBin gIx (dV 0) (dC (.int 3)))))) (sIf (tOr (tV (dBin gLt (dBin gMod (dV 6) (dC (.int 9))) (dC (.int 6)))) (tOr (tV (dBin gGt (dV 8) (dC (.int 11)))) (tV (dBin gGt (dV 5) (dC (.int 13)))))) (sMut 4 mAppend (dCons (dCall F_law_hand (dCons (dBin gIx (dV 3) (dBin gMod (dBin gDiv (dV 6) (dC (.int 9))) (dUn gLen (dV 3)))) dNil)) dNil)) (sSeq (sSetO 4 (dSl (dV 4) oNone (oSome (dBin gSub (dUn gLen (dV 4)) (dUn gLen (dV 7)))))) (sSeq (sMut 4 mAppend (dCons (dCall F_law_counted (dCons (dBin gSub (dBin gMod (dV 6) (dC (.int 9))) (dC (.int 6))) (dCons (dBin gAdd (dC (.int 1)) (dBin gMod (dBin gDiv (dV 6) (dC (.int 72))) (dUn gLen (dV 7)))) (dCons (dVS 7) dNil)))) dNil)) (sSet 5 (dBin gAdd (dV 5) (dC (.int 1)))))))))
def g_law_built (F_law_folded F_law_hand F_law_cell_at F_law_counted : List PV → Option PV) : DenS := (sSeq (sSetO 4 (dLst (dCons (dCall F_law_hand (dCons (dBin gIx (dV 3) (dBin gMod (dCall F_law_cell_at (dCons (dVS 0) (dCons (dVS 1) dNil))) (dUn gLen (dV 3)))) dNil)) dNil))) (sSeq (sSet 5 (dC (.int 0))) (sSeq (sFor (nList (dSl (dV 0) (oSome (dBin gAdd (dV 1) (dC (.int 1)))) (oSome (dBin gAdd (dV 1) (dV 2))))) (gtName 6) (b_law_built_1 F_law_folded F_law_hand F_law_cell_at F_law_counted)) (sSeq (sRel 4) (sRet (dCall F_law_folded (dCons (dVS 4) (dCons (dCall F_law_cell_at (dCons (dVS 0) (dCons (dC (.int 1)) dNil))) dNil))))))))
def F_law_built : List PV → Option PV := fn false 9 4 (g_law_built F_law_folded F_law_hand F_law_cell_at F_law_counted)
def g_law_doubled (F_law_cell_at F_law_built F_law_counted F_law_hand : List PV → Option PV) : DenS := (sSeq (sSet 2 (dCall F_law_cell_at (dCons (dVS 0) (dCons (dC (.int 4)) dNil)))) (sSeq (sIf (tV (dBin gEqF (dBin gMod (dV 2) (dC (.int 2))) (dC (.int 0)))) (sRet (dCall F_law_built (dCons (dVS 0) (dCons (dC (.int 6)) (dCons (dC (.int 50)) (dCons (dVS 1) dNil)))))) sNext) (sSeq (sSet 3 (dCall F_law_built (dCons (dVS 0) (dCons (dC (.int 6)) (dCons (dC (.int 24)) (dCons (dVS 1) dNil)))))) (sSeq (sSet 4 (dLst (dCons (dVS 3) (dCons (dCall F_law_hand (dCons (dBin gIx (dV 1) (dBin gMod (dBin gDiv (dV 2) (dC (.int 2))) (dUn gLen (dV 1)))) dNil)) (dCons (dVS 3) dNil))))) (sRet (dCall F_law_counted (dCons (dBin gMod (dBin gDiv (dV 2) (dC (.int 12))) (dC (.int 3))) (dCons (dBin gAdd (dC (.int 1)) (dBin gMod (dBin gDiv (dV 2) (dC (.int 36))) (dC (.int 3)))) (dCons (dVS 4) dNil)))))))))
def F_law_doubled : List PV → Option PV := fn false 5 2 (g_law_doubled F_law_cell_at F_law_built F_law_counted F_law_hand)
def g_law_holds (F_law_holds : List PV → Option PV) : DenS := (sSeq (sIf (tV (dBin gEqF (dBin gIx (dV 0) (dC (.int 0))) (dC (.str "hand")))) (sRet (dBin gEqF (dBin gAnd (dBin gShr (dV 2) (dBin gIndex (dV 1) (dBin gIx (dV 0) (dC (.int 1))))) (dC (.int 1))) (dC (.int 1)))) sNext) (sSeq (sSet 3 (dUn gLen (dComp (nTup (dBin gIx (dV 0) (dUn gNeg (dC (.int 1))))) (tV (dCall F_law_holds (dCons (dVS 0) (dCons (dVS 2) (dCons (dVS 3) dNil))))) (dVS 0)))) (sSeq (sIf (tV (dBin gEqF (dBin gIx (dV 0) (dC (.int 0))) (dC (.str "all")))) (sRet (dBin gEqF (dV 3) (dUn gLen (dBin gIx (dV 0) (dC (.int 1)))))) sNext) (sSeq (sIf (tV (dBin gEqF (dBin gIx (dV 0) (dC (.int 0))) (dC (.str "any")))) (sRet (dBin gGt (dV 3) (dC (.int 0)))) sNext) (sRet (dBin gGe (dV 3) (dBin gIx (dV 0) (dC (.int 1)))))))))
def Fr_law_holds : Nat → List PV → Option PV
  | 0 => fun _ => none
  | n + 1 => fn false 4 3 (g_law_holds (Fr_law_holds n))
def F_law_holds : List PV → Option PV := Fr_law_holds 24
def b_law_1 (F_law_roll F_law_doubled F_law_cell_at F_law_holds : List PV → Option PV) (T_lets : Nat → List PV → Option PV) : DenS := (sSeq (sSet 8 (dMeth T_lets (dVS 2) (dCons (dVS 1) (dCons (dVS 7) dNil)))) (sIf (tOr (tNot (tV (dUn (gIs 1) (dV 8)))) (tV (dBin gNeF (dV 8) (dCall F_law_holds (dCons (dVS 3) (dCons (dVS 1) (dCons (dVS 7) dNil))))))) (sRet (dC (.bl false))) sNext))
def g_law (F_law_roll F_law_doubled F_law_cell_at F_law_holds : List PV → Option PV) (T_lets : Nat → List PV → Option PV) : DenS := (sSeq (sSet 1 (dCall F_law_roll (dCons (dVS 0) dNil))) (sSeq (sAsg (gtTup [(gtName 2), (gtName 3), (gtName 4), (gtName 5)]) (dCall F_law_doubled (dCons (dVS 0) (dCons (dVS 1) dNil)))) (sSeq (sIf (tNot (tV (dUn gIsR (dV 2)))) (sRet (dC (.bl false))) sNext) (sSeq (sSet 6 (dListR (nRng1 (dBin gShl (dC (.int 1)) (dUn gLen (dV 1)))))) (sSeq (sFor (nList (dBin gAdd (dUn gRevL (dV 6)) (dLst (dCons (dBin gMod (dCall F_law_cell_at (dCons (dVS 0) (dCons (dC (.int 5)) dNil))) (dUn gLen (dV 6))) dNil)))) (gtName 7) (b_law_1 F_law_roll F_law_doubled F_law_cell_at F_law_holds T_lets)) (sRet (dC (.bl true))))))))
def F_law : List PV → Option PV := fn false 9 1 (g_law F_law_roll F_law_doubled F_law_cell_at F_law_holds T_lets)
end L2.D.My
set_option Elab.async false
set_option linter.all false
set_option maxRecDepth 100000
set_option maxHeartbeats 2000000
namespace L2.D.My
open PySem
def top (i : Nat) : Stmt := PySem.Challenge.pw_signright_k24_who_may_sign.main.body.getD i (.Pass ⟨0, 0, 0, 0⟩)
def mtop (i j : Nat) : Stmt := clsBody (top i) j
structure Bl (mg : Str → Option Value) : Prop where
  bool : mg "bool" = none
  isinstance : mg "isinstance" = none
  len : mg "len" = none
  list : mg "list" = none
  max : mg "max" = none
  range : mg "range" = none
  str : mg "str" = none
  tuple : mg "tuple" = none
structure Ed (K : PySem.W.Frag) (mg : Str → Option Value) (x : Str) (st : Stmt) (ps : List Str) (f : Addr) (fd : FuncData) : Prop where
  F : L2.Fun K x x st f fd
  b : L2.Binds K fd ps []
  m : mg x = some (.ref f)
section
variable {P : Program} {w : World} {K : PySem.W.Frag} {mg : Str → Option Value} {base : Heap} {κ : Kl} {CR CC fi_H fi_A fi_Y fi_S fi_C : Addr} {fdi_H fdi_A fdi_Y fdi_S fdi_C : FuncData} {f_within f_group_of f_Counting__lets f_Hand__lets f_law_cell_at f_law_name f_law_base f_law_names f_law_roll f_law_counted f_law_folded f_law_hand f_law_built f_law_doubled f_law_holds f_law : Addr} {fd_within fd_group_of fd_Counting__lets fd_Hand__lets fd_law_cell_at fd_law_name fd_law_base fd_law_names fd_law_roll fd_law_counted fd_law_folded fd_law_hand fd_law_built fd_law_doubled fd_law_holds fd_law : FuncData}
theorem sc_within : FnScope ["one", "two"] ["one", "two"] (defScope (top 6)) := ⟨rfl, rfl, rfl, by decide +kernel, rfl, by decide +kernel, by decide +kernel⟩
theorem ok_within (B : Bl mg) (d_within : Ed K mg "within" (top 6) ["one", "two"] f_within fd_within) : FnOk P w K mg base CX0 1 f_within fd_within ["one", "two"] (spD K κ false F_within) :=
  fun_den d_within.F sc_within fun cdv A outer s H E hr => have nd := sc_within.nd; (dss_one (ds_ret (de_cmp (dc_eqF (DE.b (de_and (db_var 0) (db_var 1))) (db_var 0)))))
theorem sc_group_of : FnScope ["roll", "names", "group", "name"] ["roll", "names"] (defScope (top 5)) := ⟨rfl, rfl, rfl, by decide +kernel, rfl, by decide +kernel, by decide +kernel⟩
theorem ok_group_of (B : Bl mg) (d_group_of : Ed K mg "group_of" (top 5) ["roll", "names"] f_group_of fd_group_of) : FnOk P w K mg base CX0 1 f_group_of fd_group_of ["roll", "names"] (spD K κ false F_group_of) :=
  fun_den d_group_of.F sc_group_of fun cdv A outer s H E hr => have nd := sc_group_of.nd; (dss_cons (ds_set 2 nd de_int) (dss_cons (ds_for (di_list (de_var 1)) (dg_name 3 nd) (dss_cons (ds_if (dt_cmp (dc_notIn (db_var 3) (db_var 0))) (dss_one ds_never) dss_nil) (dss_one (ds_set 2 nd (de_or (db_var 2) (DE.b (de_shl (DE.b de_int) (DE.b (de_index (db_var 0) (db_var 3)))))))))) (dss_one (ds_ret (de_var 2)))))
theorem sc_Counting__lets : FnScope ["self", "roll", "group", "letting"] ["self", "roll", "group"] (defScope (mtop 10 1)) := ⟨rfl, rfl, rfl, by decide +kernel, rfl, by decide +kernel, by decide +kernel⟩
theorem ok_Counting__lets {k0 : Nat} {T_lets : Nat → List PV → Option PV} (hk0 : 2 ≤ k0) (B : Bl mg) (d_Counting__lets : Em K "lets" "Counting.lets" (mtop 10 1) ["self", "roll", "group"] f_Counting__lets fd_Counting__lets) (C : Cf K mg κ CR CC fi_H fi_A fi_Y fi_S fi_C) (M_lets : MethOk P w K mg base κ false "lets" k0 ["self", "roll", "group"] T_lets) : FnOk P w K mg base CX0 (k0 + 1) f_Counting__lets fd_Counting__lets ["self", "roll", "group"] (spD K κ false (fn false 4 3 (g_Counting__lets T_lets))) :=
  fun_den d_Counting__lets.F sc_Counting__lets fun cdv A outer s H E hr => have nd := sc_Counting__lets.nd; (dss_cons (ds_setCIf 3 nd (dib_tup (DE.b (de_fldR C.fld (C.fldOk _) (db_var 0)))) (defScope (mtop 10 1)) ["self", "roll", "group", "letting"] ["self", "roll", "group", "letting"] (fun ex C s H => (dt_val (de_meth M_lets hr (de_var 0) (da_cons (de_var 2) (da_cons (de_var 3) da_nil))))) (fun ex C s H => (de_var 0))) (dss_one (ds_ret (de_cmp (dc_ge (DE.b (de_len (db_var 3) B.len)) (DE.b (de_fldR C.fld (C.fldOk _) (db_var 0))))))))
theorem sc_Hand__lets : FnScope ["self", "roll", "group"] ["self", "roll", "group"] (defScope (mtop 9 3)) := ⟨rfl, rfl, rfl, by decide +kernel, rfl, by decide +kernel, by decide +kernel⟩
theorem ok_Hand__lets {k0 : Nat} (hk0 : 2 ≤ k0) (B : Bl mg) (d_Hand__lets : Em K "lets" "Hand.lets" (mtop 9 3) ["self", "roll", "group"] f_Hand__lets fd_Hand__lets) (C : Cf K mg κ CR CC fi_H fi_A fi_Y fi_S fi_C) (d_within : Ed K mg "within" (top 6) ["one", "two"] f_within fd_within) (G_within : FnOk P w K mg base CX0 1 f_within fd_within ["one", "two"] (spD K κ false F_within)) (d_group_of : Ed K mg "group_of" (top 5) ["roll", "names"] f_group_of fd_group_of) (G_group_of : FnOk P w K mg base CX0 1 f_group_of fd_group_of ["roll", "names"] (spD K κ false F_group_of)) : FnOk P w K mg base CX0 (k0 + 1) f_Hand__lets fd_Hand__lets ["self", "roll", "group"] (spD K κ false (fn false 3 3 (g_Hand__lets F_within F_group_of))) :=
  fun_den d_Hand__lets.F sc_Hand__lets fun cdv A outer s H E hr => have nd := sc_Hand__lets.nd; (dss_one (ds_ret (de_call (G_within.mono (Nat.le_trans (by decide) hk0)) hr d_within.m d_within.F.kp d_within.b (da_cons (de_call (G_group_of.mono (Nat.le_trans (by decide) hk0)) hr d_group_of.m d_group_of.F.kp d_group_of.b (da_cons (de_var 1) (da_cons (DO.e (do_lst (da_cons (de_fldR C.fld (C.fldOk _) (db_var 0)) da_nil))) da_nil))) (da_cons (de_var 2) da_nil)))))
theorem sc_law_cell_at : FnScope ["_law_script", "_law_k"] ["_law_script", "_law_k"] (defScope (top 15)) := ⟨rfl, rfl, rfl, by decide +kernel, rfl, by decide +kernel, by decide +kernel⟩
theorem ok_law_cell_at (B : Bl mg) (d_law_cell_at : Ed K mg "_law_cell_at" (top 15) ["_law_script", "_law_k"] f_law_cell_at fd_law_cell_at) : FnOk P w K mg base CX0 1 f_law_cell_at fd_law_cell_at ["_law_script", "_law_k"] (spD K κ false F_law_cell_at) :=
  fun_den d_law_cell_at.F sc_law_cell_at fun cdv A outer s H E hr => have nd := sc_law_cell_at.nd; (dss_cons (ds_if (dt_cmp (dc_lt (db_var 1) (DE.b (de_len (db_var 0) B.len)))) (dss_one (ds_ret (de_ix (db_var 0) (db_var 1)))) dss_nil) (dss_one (ds_ret de_int)))
theorem sc_law_name : FnScope ["_law_base_here", "_law_place", "_law_size", "_law_k", "_law_letters", "_law_other"] ["_law_base_here", "_law_place", "_law_size", "_law_k"] (defScope (top 17)) := ⟨rfl, rfl, rfl, by decide +kernel, rfl, by decide +kernel, by decide +kernel⟩
theorem ok_law_name (B : Bl mg) (d_law_name : Ed K mg "_law_name" (top 17) ["_law_base_here", "_law_place", "_law_size", "_law_k"] f_law_name fd_law_name) : FnOk P w K mg base CX0 1 f_law_name fd_law_name ["_law_base_here", "_law_place", "_law_size", "_law_k"] (spD K κ false F_law_name) :=
  fun_den d_law_name.F sc_law_name fun cdv A outer s H E hr => have nd := sc_law_name.nd; (dss_cons (ds_set 4 nd de_str) (dss_cons (ds_set 5 nd (de_ix (db_var 4) (DE.b (de_mod (DE.b (de_add (DE.b (de_find (db_var 4) (DE.b (de_ix (db_var 0) (db_var 1))))) (DE.b (de_mul (DE.b de_int) (db_var 3))))) (DE.b de_int))))) (dss_one (ds_ret (de_add (DE.b (de_add (DE.b (de_sliceA (db_var 0) dp_none (dp_some (db_var 1)))) (db_var 5))) (DE.b (de_sliceA (db_var 0) (dp_some (DE.b (de_add (db_var 1) (DE.b de_int)))) (dp_some (db_var 2)))))))))
theorem sc_law_base : FnScope ["_law_cell", "_law_size", "_law_number", "_law_found", "_law_k"] ["_law_cell", "_law_size"] (defScope (top 16)) := ⟨rfl, rfl, rfl, by decide +kernel, rfl, by decide +kernel, by decide +kernel⟩
theorem ok_law_base (B : Bl mg) (d_law_base : Ed K mg "_law_base" (top 16) ["_law_cell", "_law_size"] f_law_base fd_law_base) : FnOk P w K mg base CX0 1 f_law_base fd_law_base ["_law_cell", "_law_size"] (spD K κ false F_law_base) :=
  fun_den d_law_base.F sc_law_base fun cdv A outer s H E hr => have nd := sc_law_base.nd; (dss_cons (ds_set 2 nd (de_mod (DE.b (de_add (DE.b (de_mul (DE.b (de_mod (db_var 0) (DE.b de_int))) (DE.b de_int))) (DE.b de_int))) (DE.b de_int))) (dss_cons (ds_set 3 nd de_str) (dss_cons (ds_for (di_rng1 (db_var 1) B.range) (dg_name 4 nd) (dss_cons (ds_set 2 nd (de_mod (DE.b (de_add (DE.b (de_add (DE.b (de_add (DE.b (de_mul (db_var 2) (db_var 2))) (DE.b (de_mul (DE.b de_int) (db_var 2))))) (db_var 4))) (DE.b de_int))) (DE.b de_int))) (dss_one (ds_set 3 nd (de_add (db_var 3) (DE.b (de_ix (DE.b de_str) (DE.b (de_mod (db_var 2) (DE.b de_int)))))))))) (dss_one (ds_ret (de_var 3))))))
theorem sc_law_names : FnScope ["_law_script", "_law_at", "_law_many", "_law_cell", "_law_size", "_law_more", "_law_word", "_law_base_here", "_law_names_here", "_law_k", "_law_name_here"] ["_law_script", "_law_at", "_law_many"] (defScope (top 18)) := ⟨rfl, rfl, rfl, by decide +kernel, rfl, by decide +kernel, by decide +kernel⟩
theorem ok_law_names (B : Bl mg) (d_law_names : Ed K mg "_law_names" (top 18) ["_law_script", "_law_at", "_law_many"] f_law_names fd_law_names) (d_law_cell_at : Ed K mg "_law_cell_at" (top 15) ["_law_script", "_law_k"] f_law_cell_at fd_law_cell_at) (G_law_cell_at : FnOk P w K mg base CX0 1 f_law_cell_at fd_law_cell_at ["_law_script", "_law_k"] (spD K κ false F_law_cell_at)) (d_law_name : Ed K mg "_law_name" (top 17) ["_law_base_here", "_law_place", "_law_size", "_law_k"] f_law_name fd_law_name) (G_law_name : FnOk P w K mg base CX0 1 f_law_name fd_law_name ["_law_base_here", "_law_place", "_law_size", "_law_k"] (spD K κ false F_law_name)) (d_law_base : Ed K mg "_law_base" (top 16) ["_law_cell", "_law_size"] f_law_base fd_law_base) (G_law_base : FnOk P w K mg base CX0 1 f_law_base fd_law_base ["_law_cell", "_law_size"] (spD K κ false F_law_base)) : FnOk P w K mg base CX0 2 f_law_names fd_law_names ["_law_script", "_law_at", "_law_many"] (spD K κ true F_law_names) :=
  fun_den d_law_names.F sc_law_names fun cdv A outer s H E hr => have nd := sc_law_names.nd; (dss_cons (ds_set 3 nd (de_call (G_law_cell_at.mono (by decide)) hr d_law_cell_at.m d_law_cell_at.F.kp d_law_cell_at.b (da_cons (de_var 0) (da_cons (de_var 1) da_nil)))) (dss_cons (ds_set 4 nd (de_add (DE.b de_int) (DE.b (de_mod (db_var 3) (DE.b de_int))))) (dss_cons (ds_set 5 nd (de_call (G_law_cell_at.mono (by decide)) hr d_law_cell_at.m d_law_cell_at.F.kp d_law_cell_at.b (da_cons (de_var 0) (da_cons (de_add (db_var 1) (DE.b de_int)) da_nil)))) (dss_cons (ds_set 6 nd (de_ix (DO.b (do_lst (da_cons de_str (da_cons de_str (da_cons de_str (da_cons de_str (da_cons de_str (da_cons de_str (da_cons de_str (da_cons de_str da_nil)))))))))) (DE.b (de_mod (db_var 5) (DE.b de_int))))) (dss_cons (ds_set 7 nd (de_sliceA (DE.b (de_add (db_var 6) (DE.b (de_call (G_law_base.mono (by decide)) hr d_law_base.m d_law_base.F.kp d_law_base.b (da_cons (de_div (db_var 5) (DE.b de_int)) (da_cons de_int da_nil)))))) dp_none (dp_some (DE.b de_int)))) (dss_cons (ds_setO 8 nd (do_lst da_nil)) (dss_cons (ds_for (di_rng1 (db_var 2) B.range) (dg_name 9 nd) (dss_cons (ds_set 10 nd (de_call (G_law_name.mono (by decide)) hr d_law_name.m d_law_name.F.kp d_law_name.b (da_cons (de_var 7) (da_cons (de_mod (DE.b (de_div (db_var 3) (DE.b de_int))) (db_var 4)) (da_cons (de_var 4) (da_cons (de_var 9) da_nil)))))) (dss_cons (ds_if (dt_cmp (dc_eqF (DE.b (de_mod (DE.b (de_div (db_var 3) (DE.b de_int))) (DE.b de_int))) (DE.b de_int))) (dss_one (ds_set 10 nd (de_sliceA (db_var 7) dp_none (dp_some (DE.b (de_add (db_var 9) (DE.b de_int))))))) dss_nil) (dss_cons (ds_if (dt_cmp (dc_in (db_var 10) (DE.b (de_tup (da_cons de_str (da_cons de_str (da_cons de_str da_nil))))))) (dss_one (ds_set 10 nd (de_revS (db_var 10) (DE.b (de_neg (DE.b de_int)))))) dss_nil) (dss_one (ds_append 8 (da_cons (de_var 10) da_nil))))))) (dss_one (ds_retV 8)))))))))
theorem sc_law_roll : FnScope ["_law_script"] ["_law_script"] (defScope (top 19)) := ⟨rfl, rfl, rfl, by decide +kernel, rfl, by decide +kernel, by decide +kernel⟩
theorem ok_law_roll (B : Bl mg) (d_law_roll : Ed K mg "_law_roll" (top 19) ["_law_script"] f_law_roll fd_law_roll) (d_law_names : Ed K mg "_law_names" (top 18) ["_law_script", "_law_at", "_law_many"] f_law_names fd_law_names) (G_law_names : FnOk P w K mg base CX0 2 f_law_names fd_law_names ["_law_script", "_law_at", "_law_many"] (spD K κ true F_law_names)) (d_law_cell_at : Ed K mg "_law_cell_at" (top 15) ["_law_script", "_law_k"] f_law_cell_at fd_law_cell_at) (G_law_cell_at : FnOk P w K mg base CX0 1 f_law_cell_at fd_law_cell_at ["_law_script", "_law_k"] (spD K κ false F_law_cell_at)) : FnOk P w K mg base CX0 3 f_law_roll fd_law_roll ["_law_script"] (spD K κ false F_law_roll) :=
  fun_den d_law_roll.F sc_law_roll fun cdv A outer s H E hr => have nd := sc_law_roll.nd; (dss_one (ds_ret (de_tuple (DO.b (do_call (G_law_names.mono (by decide)) hr d_law_names.m d_law_names.F.kp d_law_names.b (da_cons (de_var 0) (da_cons de_int (da_cons (de_add (DE.b de_int) (DE.b (de_mod (DE.b (de_call (G_law_cell_at.mono (by decide)) hr d_law_cell_at.m d_law_cell_at.F.kp d_law_cell_at.b (da_cons (de_var 0) (da_cons de_int da_nil)))) (DE.b de_int)))) da_nil))))) B.tuple)))
theorem sc_law_counted : FnScope ["_law_kind", "_law_many", "_law_items", "_law_parts", "_law_shapes", "_law_texts", "_law_deep", "_law_found"] ["_law_kind", "_law_many", "_law_items"] (defScope (top 21)) := ⟨rfl, rfl, rfl, by decide +kernel, rfl, by decide +kernel, by decide +kernel⟩
theorem ok_law_counted (B : Bl mg) (d_law_counted : Ed K mg "_law_counted" (top 21) ["_law_kind", "_law_many", "_law_items"] f_law_counted fd_law_counted) (C : Cf K mg κ CR CC fi_H fi_A fi_Y fi_S fi_C) (GI_A : FnOk P w K mg base CX0 2 fi_A fdi_A ["self", "parts"] (spMk1 K (κ.adr 1) fun ys => (ys.length : Nat))) (bi_A : Binds K fdi_A ["self", "parts"] []) (GI_Y : FnOk P w K mg base CX0 2 fi_Y fdi_Y ["self", "parts"] (spMk1 K (κ.adr 2) fun _ => 1)) (bi_Y : Binds K fdi_Y ["self", "parts"] []) (GI_S : FnOk P w K mg base CX0 2 fi_S fdi_S ["self", "many", "parts"] (spCnt K (κ.adr 3))) (bi_S : Binds K fdi_S ["self", "many", "parts"] []) : FnOk P w K mg base CX0 6 f_law_counted fd_law_counted ["_law_kind", "_law_many", "_law_items"] (spD K κ false F_law_counted) :=
  fun_den d_law_counted.F sc_law_counted fun cdv A outer s H E hr => have nd := sc_law_counted.nd; (dss_cons (ds_setCO 3 nd (dib_list (db_var 2)) (defScope (top 21)) ["_law_kind", "_law_many", "_law_items", "_law_parts", "_law_shapes", "_law_texts", "_law_deep", "_law_found"] ["_law_kind", "_law_many", "_law_items", "_law_parts", "_law_shapes", "_law_texts", "_law_deep", "_law_found"] (fun ex C s H => (de_ix (db_var 0) (DE.b de_int)))) (dss_cons (ds_set 4 nd (de_tuple (DO.b (do_comp (dib_list (db_var 2)) (defScope (top 21)) ["_law_kind", "_law_many", "_law_items", "_law_parts", "_law_shapes", "_law_texts", "_law_deep", "_law_found"] ["_law_kind", "_law_many", "_law_items", "_law_parts", "_law_shapes", "_law_texts", "_law_deep", "_law_found"] (fun ex C s H => (de_ix (db_var 0) (DE.b de_int))))) B.tuple)) (dss_cons (ds_set 5 nd (de_add (DE.b (de_join (DE.b de_str) (DO.b (do_comp (dib_list (db_var 2)) (defScope (top 21)) ["_law_kind", "_law_many", "_law_items", "_law_parts", "_law_shapes", "_law_texts", "_law_deep", "_law_found"] ["_law_kind", "_law_many", "_law_items", "_law_parts", "_law_shapes", "_law_texts", "_law_deep", "_law_found"] (fun ex C s H => (de_ix (db_var 0) (DE.b de_int))))))) (DE.b de_str))) (dss_cons (ds_set 6 nd (de_add (DE.b de_int) (DE.b (de_maxL (DO.b (do_comp (dib_list (db_var 2)) (defScope (top 21)) ["_law_kind", "_law_many", "_law_items", "_law_parts", "_law_shapes", "_law_texts", "_law_deep", "_law_found"] ["_law_kind", "_law_many", "_law_items", "_law_parts", "_law_shapes", "_law_texts", "_law_deep", "_law_found"] (fun ex C s H => (de_ix (db_var 0) (DE.b de_int))))) B.max)))) (dss_cons (ds_if (dt_cmp (dc_eqF (db_var 0) (DE.b de_int))) (dss_one (ds_set 7 nd (de_tup (da_cons (de_mkAll C.kA GI_A (by rw [C.fld]; rfl) (hr.mono (by decide)) C.gA bi_A (db_var 3)) (da_cons (de_tup (da_cons de_str (da_cons (de_var 4) da_nil))) (da_cons (de_add (DE.b de_str) (db_var 5)) (da_cons (de_var 6) da_nil))))))) (dss_one (ds_if (dt_cmp (dc_eqF (db_var 0) (DE.b de_int))) (dss_one (ds_set 7 nd (de_tup (da_cons (de_mkAny C.kY GI_Y (by rw [C.fld]; rfl) (hr.mono (by decide)) C.gY bi_Y (db_var 3)) (da_cons (de_tup (da_cons de_str (da_cons (de_var 4) da_nil))) (da_cons (de_add (DE.b de_str) (db_var 5)) (da_cons (de_var 6) da_nil))))))) (dss_one (ds_set 7 nd (de_tup (da_cons (de_mkSome C.kS GI_S (by rw [C.fld]; rfl) (hr.mono (by decide)) C.gS bi_S (db_var 1) (db_var 3)) (da_cons (de_tup (da_cons de_str (da_cons (de_var 1) (da_cons (de_var 4) da_nil)))) (da_cons (de_add (DE.b (de_add (DE.b (de_strI (db_var 1) B.str)) (DE.b de_str))) (db_var 5)) (da_cons (de_var 6) da_nil)))))))))) (dss_cons (ds_clear 3) (dss_one (ds_ret (de_var 7)))))))))
theorem sc_law_folded : FnScope ["_law_pile", "_law_cell", "_law_number", "_law_items"] ["_law_pile", "_law_cell"] (defScope (top 22)) := ⟨rfl, rfl, rfl, by decide +kernel, rfl, by decide +kernel, by decide +kernel⟩
theorem ok_law_folded (B : Bl mg) (d_law_folded : Ed K mg "_law_folded" (top 22) ["_law_pile", "_law_cell"] f_law_folded fd_law_folded) (d_law_counted : Ed K mg "_law_counted" (top 21) ["_law_kind", "_law_many", "_law_items"] f_law_counted fd_law_counted) (G_law_counted : FnOk P w K mg base CX0 6 f_law_counted fd_law_counted ["_law_kind", "_law_many", "_law_items"] (spD K κ false F_law_counted)) : FnOk P w K mg base CX0 7 f_law_folded fd_law_folded ["_law_pile", "_law_cell"] (spD K κ false F_law_folded) :=
  fun_den d_law_folded.F sc_law_folded fun cdv A outer s H E hr => have nd := sc_law_folded.nd; (dss_cons (ds_set 2 nd (de_add (DE.b de_int) (DE.b (de_mod (db_var 1) (DE.b de_int))))) (dss_cons (ds_while 1000 (dt_cmp (dc_gt (DE.b (de_len (db_var 0) B.len)) (DE.b de_int))) (dss_cons (ds_set 2 nd (de_mod (DE.b (de_add (DE.b (de_mul (db_var 2) (db_var 2))) (DE.b (de_mul (DE.b de_int) (db_var 2))))) (DE.b de_int))) (dss_cons (ds_set 3 nd (DO.e (do_slice (db_var 0) (dp_some (DE.b (de_neg (DE.b de_int)))) dp_none))) (dss_cons (ds_setO 0 nd (do_slice (db_var 0) dp_none (dp_some (DE.b (de_neg (DE.b de_int)))))) (dss_one (ds_append 0 (da_cons (de_call (G_law_counted.mono (by decide)) hr d_law_counted.m d_law_counted.F.kp d_law_counted.b (da_cons (de_mod (db_var 2) (DE.b de_int)) (da_cons (de_add (DE.b de_int) (DE.b (de_mod (DE.b (de_div (db_var 2) (DE.b de_int))) (DE.b (de_len (db_var 3) B.len))))) (da_cons (de_var 3) da_nil)))) da_nil))))))) (dss_one (ds_ret (de_ix (db_var 0) (DE.b de_int))))))
theorem sc_law_hand : FnScope ["_law_name_here"] ["_law_name_here"] (defScope (top 20)) := ⟨rfl, rfl, rfl, by decide +kernel, rfl, by decide +kernel, by decide +kernel⟩
theorem ok_law_hand (B : Bl mg) (d_law_hand : Ed K mg "_law_hand" (top 20) ["_law_name_here"] f_law_hand fd_law_hand) (C : Cf K mg κ CR CC fi_H fi_A fi_Y fi_S fi_C) (GI_H : FnOk P w K mg base CX0 1 fi_H fdi_H ["self", "name"] (spHand (κ.adr 0))) (bi_H : Binds K fdi_H ["self", "name"] []) : FnOk P w K mg base CX0 6 f_law_hand fd_law_hand ["_law_name_here"] (spD K κ false F_law_hand) :=
  fun_den d_law_hand.F sc_law_hand fun cdv A outer s H E hr => have nd := sc_law_hand.nd; (dss_one (ds_ret (de_tup (da_cons (de_mkHand C.kH GI_H (by rw [C.fld]; rfl) (hr.mono (by decide)) C.gH bi_H (db_var 0)) (da_cons (de_tup (da_cons de_str (da_cons (de_var 0) da_nil))) (da_cons (de_var 0) (da_cons de_int da_nil)))))))
theorem sc_law_built : FnScope ["_law_script", "_law_at", "_law_size", "_law_roll_here", "_law_pile", "_law_heads", "_law_cell", "_law_items", "_law_deep"] ["_law_script", "_law_at", "_law_size", "_law_roll_here"] (defScope (top 23)) := ⟨rfl, rfl, rfl, by decide +kernel, rfl, by decide +kernel, by decide +kernel⟩
theorem ok_law_built (B : Bl mg) (d_law_built : Ed K mg "_law_built" (top 23) ["_law_script", "_law_at", "_law_size", "_law_roll_here"] f_law_built fd_law_built) (d_law_folded : Ed K mg "_law_folded" (top 22) ["_law_pile", "_law_cell"] f_law_folded fd_law_folded) (G_law_folded : FnOk P w K mg base CX0 7 f_law_folded fd_law_folded ["_law_pile", "_law_cell"] (spD K κ false F_law_folded)) (d_law_hand : Ed K mg "_law_hand" (top 20) ["_law_name_here"] f_law_hand fd_law_hand) (G_law_hand : FnOk P w K mg base CX0 6 f_law_hand fd_law_hand ["_law_name_here"] (spD K κ false F_law_hand)) (d_law_cell_at : Ed K mg "_law_cell_at" (top 15) ["_law_script", "_law_k"] f_law_cell_at fd_law_cell_at) (G_law_cell_at : FnOk P w K mg base CX0 1 f_law_cell_at fd_law_cell_at ["_law_script", "_law_k"] (spD K κ false F_law_cell_at)) (d_law_counted : Ed K mg "_law_counted" (top 21) ["_law_kind", "_law_many", "_law_items"] f_law_counted fd_law_counted) (G_law_counted : FnOk P w K mg base CX0 6 f_law_counted fd_law_counted ["_law_kind", "_law_many", "_law_items"] (spD K κ false F_law_counted)) : FnOk P w K mg base CX0 8 f_law_built fd_law_built ["_law_script", "_law_at", "_law_size", "_law_roll_here"] (spD K κ false F_law_built) :=
  fun_den d_law_built.F sc_law_built fun cdv A outer s H E hr => have nd := sc_law_built.nd; (dss_cons (ds_setO 4 nd (do_lst (da_cons (de_call (G_law_hand.mono (by decide)) hr d_law_hand.m d_law_hand.F.kp d_law_hand.b (da_cons (de_ix (db_var 3) (DE.b (de_mod (DE.b (de_call (G_law_cell_at.mono (by decide)) hr d_law_cell_at.m d_law_cell_at.F.kp d_law_cell_at.b (da_cons (de_var 0) (da_cons (de_var 1) da_nil)))) (DE.b (de_len (db_var 3) B.len))))) da_nil)) da_nil))) (dss_cons (ds_set 5 nd de_int) (dss_cons (ds_for (di_list (DO.e (do_slice (db_var 0) (dp_some (DE.b (de_add (db_var 1) (DE.b de_int)))) (dp_some (DE.b (de_add (db_var 1) (db_var 2))))))) (dg_name 6 nd) (dss_cons (ds_set 7 nd (DO.e (do_slice (db_var 4) (dp_some (DE.b (de_neg (DE.b (de_add (DE.b de_int) (DE.b (de_mod (DE.b (de_div (db_var 6) (DE.b de_int))) (DE.b de_int)))))))) dp_none))) (dss_cons (ds_set 8 nd (de_maxL (DO.b (do_comp (dib_list (db_var 7)) (defScope (top 23)) ["_law_script", "_law_at", "_law_size", "_law_roll_here", "_law_pile", "_law_heads", "_law_cell", "_law_items", "_law_deep"] ["_law_script", "_law_at", "_law_size", "_law_roll_here", "_law_pile", "_law_heads", "_law_cell", "_law_items", "_law_deep"] (fun ex C s H => (de_ix (db_var 0) (DE.b de_int))))) B.max)) (dss_one (ds_if (DW.t (dw_or (dt_cmp (dc_lt (DE.b (de_mod (db_var 6) (DE.b de_int))) (DE.b de_int))) (dw_or (dt_cmp (dc_gt (db_var 8) (DE.b de_int))) (dw_or1 (dt_cmp (dc_gt (db_var 5) (DE.b de_int))))))) (dss_one (ds_append 4 (da_cons (de_call (G_law_hand.mono (by decide)) hr d_law_hand.m d_law_hand.F.kp d_law_hand.b (da_cons (de_ix (db_var 3) (DE.b (de_mod (DE.b (de_div (db_var 6) (DE.b de_int))) (DE.b (de_len (db_var 3) B.len))))) da_nil)) da_nil))) (dss_cons (ds_setO 4 nd (do_slice (db_var 4) dp_none (dp_some (DE.b (de_sub (DE.b (de_len (db_var 4) B.len)) (DE.b (de_len (db_var 7) B.len))))))) (dss_cons (ds_append 4 (da_cons (de_call (G_law_counted.mono (by decide)) hr d_law_counted.m d_law_counted.F.kp d_law_counted.b (da_cons (de_sub (DE.b (de_mod (db_var 6) (DE.b de_int))) (DE.b de_int)) (da_cons (de_add (DE.b de_int) (DE.b (de_mod (DE.b (de_div (db_var 6) (DE.b de_int))) (DE.b (de_len (db_var 7) B.len))))) (da_cons (de_var 7) da_nil)))) da_nil)) (dss_one (ds_set 5 nd (de_add (db_var 5) (DE.b de_int))))))))))) (dss_rel 4 (dss_one (ds_ret (de_call (G_law_folded.mono (by decide)) hr d_law_folded.m d_law_folded.F.kp d_law_folded.b (da_cons (de_var 4) (da_cons (de_call (G_law_cell_at.mono (by decide)) hr d_law_cell_at.m d_law_cell_at.F.kp d_law_cell_at.b (da_cons (de_var 0) (da_cons de_int da_nil))) da_nil)))))))))
theorem sc_law_doubled : FnScope ["_law_script", "_law_roll_here", "_law_cell", "_law_whole", "_law_items"] ["_law_script", "_law_roll_here"] (defScope (top 24)) := ⟨rfl, rfl, rfl, by decide +kernel, rfl, by decide +kernel, by decide +kernel⟩
theorem ok_law_doubled (B : Bl mg) (d_law_doubled : Ed K mg "_law_doubled" (top 24) ["_law_script", "_law_roll_here"] f_law_doubled fd_law_doubled) (d_law_cell_at : Ed K mg "_law_cell_at" (top 15) ["_law_script", "_law_k"] f_law_cell_at fd_law_cell_at) (G_law_cell_at : FnOk P w K mg base CX0 1 f_law_cell_at fd_law_cell_at ["_law_script", "_law_k"] (spD K κ false F_law_cell_at)) (d_law_built : Ed K mg "_law_built" (top 23) ["_law_script", "_law_at", "_law_size", "_law_roll_here"] f_law_built fd_law_built) (G_law_built : FnOk P w K mg base CX0 8 f_law_built fd_law_built ["_law_script", "_law_at", "_law_size", "_law_roll_here"] (spD K κ false F_law_built)) (d_law_counted : Ed K mg "_law_counted" (top 21) ["_law_kind", "_law_many", "_law_items"] f_law_counted fd_law_counted) (G_law_counted : FnOk P w K mg base CX0 6 f_law_counted fd_law_counted ["_law_kind", "_law_many", "_law_items"] (spD K κ false F_law_counted)) (d_law_hand : Ed K mg "_law_hand" (top 20) ["_law_name_here"] f_law_hand fd_law_hand) (G_law_hand : FnOk P w K mg base CX0 6 f_law_hand fd_law_hand ["_law_name_here"] (spD K κ false F_law_hand)) : FnOk P w K mg base CX0 9 f_law_doubled fd_law_doubled ["_law_script", "_law_roll_here"] (spD K κ false F_law_doubled) :=
  fun_den d_law_doubled.F sc_law_doubled fun cdv A outer s H E hr => have nd := sc_law_doubled.nd; (dss_cons (ds_set 2 nd (de_call (G_law_cell_at.mono (by decide)) hr d_law_cell_at.m d_law_cell_at.F.kp d_law_cell_at.b (da_cons (de_var 0) (da_cons de_int da_nil)))) (dss_cons (ds_if (dt_cmp (dc_eqF (DE.b (de_mod (db_var 2) (DE.b de_int))) (DE.b de_int))) (dss_one (ds_ret (de_call (G_law_built.mono (by decide)) hr d_law_built.m d_law_built.F.kp d_law_built.b (da_cons (de_var 0) (da_cons de_int (da_cons de_int (da_cons (de_var 1) da_nil))))))) dss_nil) (dss_cons (ds_set 3 nd (de_call (G_law_built.mono (by decide)) hr d_law_built.m d_law_built.F.kp d_law_built.b (da_cons (de_var 0) (da_cons de_int (da_cons de_int (da_cons (de_var 1) da_nil)))))) (dss_cons (ds_set 4 nd (DO.e (do_lst (da_cons (de_var 3) (da_cons (de_call (G_law_hand.mono (by decide)) hr d_law_hand.m d_law_hand.F.kp d_law_hand.b (da_cons (de_ix (db_var 1) (DE.b (de_mod (DE.b (de_div (db_var 2) (DE.b de_int))) (DE.b (de_len (db_var 1) B.len))))) da_nil)) (da_cons (de_var 3) da_nil)))))) (dss_one (ds_ret (de_call (G_law_counted.mono (by decide)) hr d_law_counted.m d_law_counted.F.kp d_law_counted.b (da_cons (de_mod (DE.b (de_div (db_var 2) (DE.b de_int))) (DE.b de_int)) (da_cons (de_add (DE.b de_int) (DE.b (de_mod (DE.b (de_div (db_var 2) (DE.b de_int))) (DE.b de_int)))) (da_cons (de_var 4) da_nil))))))))))
theorem sc_law_holds : FnScope ["_law_shape", "_law_roll_here", "_law_group", "_law_many"] ["_law_shape", "_law_roll_here", "_law_group"] (defScope (top 25)) := ⟨rfl, rfl, rfl, by decide +kernel, rfl, by decide +kernel, by decide +kernel⟩
theorem okr_law_holds (B : Bl mg) (d_law_holds : Ed K mg "_law_holds" (top 25) ["_law_shape", "_law_roll_here", "_law_group"] f_law_holds fd_law_holds) : ∀ n : Nat, FnOk P w K mg base CX0 n f_law_holds fd_law_holds ["_law_shape", "_law_roll_here", "_law_group"] (spD K κ false (Fr_law_holds n))
  | 0 => fnok_none
  | n + 1 => have G_law_holds := okr_law_holds B d_law_holds n; fun_den d_law_holds.F sc_law_holds fun cdv A outer s H E hr => have nd := sc_law_holds.nd; (dss_cons (ds_if (dt_cmp (dc_eqF (DE.b (de_ix (db_var 0) (DE.b de_int))) (DE.b de_str))) (dss_one (ds_ret (de_cmp (dc_eqF (DE.b (de_and (DE.b (de_shr (db_var 2) (DE.b (de_index (db_var 1) (DE.b (de_ix (db_var 0) (DE.b de_int))))))) (DE.b de_int))) (DE.b de_int))))) dss_nil) (dss_cons (ds_set 3 nd (de_len (DO.b (do_compIf (dib_tup (DE.b (de_ix (db_var 0) (DE.b (de_neg (DE.b de_int)))))) (defScope (top 25)) ["_law_shape", "_law_roll_here", "_law_group", "_law_many"] ["_law_shape", "_law_roll_here", "_law_group", "_law_many"] (fun ex C s H => (dt_val (de_call G_law_holds hr d_law_holds.m d_law_holds.F.kp d_law_holds.b (da_cons (de_var 0) (da_cons (de_var 2) (da_cons (de_var 3) da_nil)))))) (fun ex C s H => (de_var 0)))) B.len)) (dss_cons (ds_if (dt_cmp (dc_eqF (DE.b (de_ix (db_var 0) (DE.b de_int))) (DE.b de_str))) (dss_one (ds_ret (de_cmp (dc_eqF (db_var 3) (DE.b (de_len (DE.b (de_ix (db_var 0) (DE.b de_int))) B.len)))))) dss_nil) (dss_cons (ds_if (dt_cmp (dc_eqF (DE.b (de_ix (db_var 0) (DE.b de_int))) (DE.b de_str))) (dss_one (ds_ret (de_cmp (dc_gt (db_var 3) (DE.b de_int))))) dss_nil) (dss_one (ds_ret (de_cmp (dc_ge (db_var 3) (DE.b (de_ix (db_var 0) (DE.b de_int)))))))))))
theorem ok_law_holds (B : Bl mg) (d_law_holds : Ed K mg "_law_holds" (top 25) ["_law_shape", "_law_roll_here", "_law_group"] f_law_holds fd_law_holds) : FnOk P w K mg base CX0 24 f_law_holds fd_law_holds ["_law_shape", "_law_roll_here", "_law_group"] (spD K κ false F_law_holds) := okr_law_holds B d_law_holds 24
theorem sc_law : FnScope ["_law_script", "_law_roll_here", "_law_rule", "_law_shape", "_law_text", "_law_deep", "_law_groups", "_law_group", "_law_found"] ["_law_script"] (defScope (top 26)) := ⟨rfl, rfl, rfl, by decide +kernel, rfl, by decide +kernel, by decide +kernel⟩
theorem ok_law (B : Bl mg) (d_law : Ed K mg "law" (top 26) ["_law_script"] f_law fd_law) (C : Cf K mg κ CR CC fi_H fi_A fi_Y fi_S fi_C) (M_lets : MethOk P w K mg base κ false "lets" 26 ["self", "roll", "group"] T_lets) (d_law_roll : Ed K mg "_law_roll" (top 19) ["_law_script"] f_law_roll fd_law_roll) (G_law_roll : FnOk P w K mg base CX0 3 f_law_roll fd_law_roll ["_law_script"] (spD K κ false F_law_roll)) (d_law_doubled : Ed K mg "_law_doubled" (top 24) ["_law_script", "_law_roll_here"] f_law_doubled fd_law_doubled) (G_law_doubled : FnOk P w K mg base CX0 9 f_law_doubled fd_law_doubled ["_law_script", "_law_roll_here"] (spD K κ false F_law_doubled)) (d_law_cell_at : Ed K mg "_law_cell_at" (top 15) ["_law_script", "_law_k"] f_law_cell_at fd_law_cell_at) (G_law_cell_at : FnOk P w K mg base CX0 1 f_law_cell_at fd_law_cell_at ["_law_script", "_law_k"] (spD K κ false F_law_cell_at)) (d_law_holds : Ed K mg "_law_holds" (top 25) ["_law_shape", "_law_roll_here", "_law_group"] f_law_holds fd_law_holds) (G_law_holds : FnOk P w K mg base CX0 24 f_law_holds fd_law_holds ["_law_shape", "_law_roll_here", "_law_group"] (spD K κ false F_law_holds)) : FnOk P w K mg base CX0 27 f_law fd_law ["_law_script"] (spD K κ false F_law) :=
  fun_den d_law.F sc_law fun cdv A outer s H E hr => have nd := sc_law.nd; (dss_cons (ds_set 1 nd (de_call (G_law_roll.mono (by decide)) hr d_law_roll.m d_law_roll.F.kp d_law_roll.b (da_cons (de_var 0) da_nil))) (dss_cons (ds_asg (dg_tup (dgs_cons (dg_name 2 nd) (dgs_cons (dg_name 3 nd) (dgs_cons (dg_name 4 nd) (dgs_cons (dg_name 5 nd) dgs_nil))))) (de_call (G_law_doubled.mono (by decide)) hr d_law_doubled.m d_law_doubled.F.kp d_law_doubled.b (da_cons (de_var 0) (da_cons (de_var 1) da_nil)))) (dss_cons (ds_if (dt_not (dt_val (de_isR C.isR (db_var 2) B.isinstance C.gR))) (dss_one (ds_ret de_bl)) dss_nil) (dss_cons (ds_set 6 nd (DO.e (do_listR1 (DE.b (de_shl (DE.b de_int) (DE.b (de_len (db_var 1) B.len)))) B.list B.range))) (dss_cons (ds_for (di_list (de_add (DO.b (do_revL (db_var 6) (DE.b (de_neg (DE.b de_int))))) (DO.b (do_lst (da_cons (de_mod (DE.b (de_call (G_law_cell_at.mono (by decide)) hr d_law_cell_at.m d_law_cell_at.F.kp d_law_cell_at.b (da_cons (de_var 0) (da_cons de_int da_nil)))) (DE.b (de_len (db_var 6) B.len))) da_nil))))) (dg_name 7 nd) (dss_cons (ds_set 8 nd (de_meth (M_lets.mono (by decide)) hr (de_var 2) (da_cons (de_var 1) (da_cons (de_var 7) da_nil)))) (dss_one (ds_if (DW.t (dw_or (dt_not (dt_val (de_isinst_bool (db_var 8) B.isinstance B.bool))) (dw_or1 (dt_cmp (dc_neF (db_var 8) (DE.b (de_call (G_law_holds.mono (by decide)) hr d_law_holds.m d_law_holds.F.kp d_law_holds.b (da_cons (de_var 3) (da_cons (de_var 1) (da_cons (de_var 7) da_nil)))))))))) (dss_one (ds_ret de_bl)) dss_nil)))) (dss_one (ds_ret de_bl)))))))
theorem mok_lets (B : Bl mg) (C : Cf K mg κ CR CC fi_H fi_A fi_Y fi_S fi_C) (d_Counting__lets : Em K "lets" "Counting.lets" (mtop 10 1) ["self", "roll", "group"] f_Counting__lets fd_Counting__lets) (d_Hand__lets : Em K "lets" "Hand.lets" (mtop 9 3) ["self", "roll", "group"] f_Hand__lets fd_Hand__lets) (m_Hand_lets : Meth K (κ.adr 0) "lets" f_Hand__lets) (m_All_lets : Meth K (κ.adr 1) "lets" f_Counting__lets) (m_Any_lets : Meth K (κ.adr 2) "lets" f_Counting__lets) (m_Some_lets : Meth K (κ.adr 3) "lets" f_Counting__lets) (d_within : Ed K mg "within" (top 6) ["one", "two"] f_within fd_within) (G_within : FnOk P w K mg base CX0 1 f_within fd_within ["one", "two"] (spD K κ false F_within)) (d_group_of : Ed K mg "group_of" (top 5) ["roll", "names"] f_group_of fd_group_of) (G_group_of : FnOk P w K mg base CX0 1 f_group_of fd_group_of ["roll", "names"] (spD K κ false F_group_of)) : ∀ n : Nat, MethOk P w K mg base κ false "lets" (2 + 1 * n) ["self", "roll", "group"] (Tr_lets n)
  | 0 => fun c xs p h => by cases h
  | n + 1 => by
    have M_lets := mok_lets B C d_Counting__lets d_Hand__lets m_Hand_lets m_All_lets m_Any_lets m_Some_lets d_within G_within d_group_of G_group_of n
    have hk0 : 2 ≤ 2 + 1 * n := by omega
    exact fun c xs p h => match c, h with
      | 0, _ => ⟨_, _, C.cls 0 (by decide), m_Hand_lets, by rw [C.fld]; decide, ok_Hand__lets hk0 B d_Hand__lets C d_within G_within d_group_of G_group_of, d_Hand__lets.b⟩
      | 1, _ => ⟨_, _, C.cls 1 (by decide), m_All_lets, by rw [C.fld]; decide, ok_Counting__lets hk0 B d_Counting__lets C M_lets, d_Counting__lets.b⟩
      | 2, _ => ⟨_, _, C.cls 2 (by decide), m_Any_lets, by rw [C.fld]; decide, ok_Counting__lets hk0 B d_Counting__lets C M_lets, d_Counting__lets.b⟩
      | 3, _ => ⟨_, _, C.cls 3 (by decide), m_Some_lets, by rw [C.fld]; decide, ok_Counting__lets hk0 B d_Counting__lets C M_lets, d_Counting__lets.b⟩
      | _ + 4, h => by cases h
theorem sci_H : FnScope ["self", "name"] ["self", "name"] (defScope (mtop 9 0)) := ⟨rfl, rfl, rfl, by decide +kernel, rfl, by decide +kernel, by decide +kernel⟩
theorem sci_A : FnScope ["self", "parts"] ["self", "parts"] (defScope (mtop 11 0)) := ⟨rfl, rfl, rfl, by decide +kernel, rfl, by decide +kernel, by decide +kernel⟩
theorem sci_Y : FnScope ["self", "parts"] ["self", "parts"] (defScope (mtop 12 0)) := ⟨rfl, rfl, rfl, by decide +kernel, rfl, by decide +kernel, by decide +kernel⟩
theorem sci_S : FnScope ["self", "many", "parts"] ["self", "many", "parts"] (defScope (mtop 13 0)) := ⟨rfl, rfl, rfl, by decide +kernel, rfl, by decide +kernel, by decide +kernel⟩
theorem sci_C : FnScope ["self", "wanted", "parts"] ["self", "wanted", "parts"] (defScope (mtop 10 0)) := ⟨rfl, rfl, rfl, by decide +kernel, rfl, by decide +kernel, by decide +kernel⟩
theorem oki_H (B : Bl mg) (C : Cf K mg κ CR CC fi_H fi_A fi_Y fi_S fi_C) (d : Em K "__init__" "Hand.__init__" (mtop 9 0) ["self", "name"] fi_H fdi_H) : FnOk P w K mg base CX0 1 fi_H fdi_H ["self", "name"] (spHand (κ.adr 0)) :=
  d.F.ok sci_H (fun vs H Q E h => len_hand h) fun cdv A outer s H vs Q E hr h => ⟨_, pss_one (ps_fld (pv 0) (pv 1) rfl), rd_hand (C.cls 0 (by decide)) C.nn h⟩
theorem oki_C (B : Bl mg) (C : Cf K mg κ CR CC fi_H fi_A fi_Y fi_S fi_C) (c : Nat) (h0 : 0 < c) (h4 : c < 4) (d : Em K "__init__" "Counting.__init__" (mtop 10 0) ["self", "wanted", "parts"] fi_C fdi_C) : FnOk P w K mg base CX0 1 fi_C fdi_C ["self", "wanted", "parts"] (spCnt K (κ.adr c)) :=
  d.F.ok sci_C (fun vs H Q E h => len_cnt h) fun cdv A outer s H vs Q E hr h => ⟨_, pss_cons (ps_fld (pv 0) (pv 1) rfl) (pss_one (ps_fld (pv 0) (pe_callTy call_tuple_of (by rfl) B.tuple (by decide +kernel) (pa_cons (pv 2) pa_nil)) rfl)), rd_cnt (C.cls c h4) (C.nw c h0 h4) (C.np c h0 h4) h⟩
theorem oki_A (B : Bl mg) (C : Cf K mg κ CR CC fi_H fi_A fi_Y fi_S fi_C) (dC : Em K "__init__" "Counting.__init__" (mtop 10 0) ["self", "wanted", "parts"] fi_C fdi_C) (d : Em K "__init__" "All.__init__" (mtop 11 0) ["self", "parts"] fi_A fdi_A) : FnOk P w K mg base CX0 2 fi_A fdi_A ["self", "parts"] (spMk1 K (κ.adr 1) fun ys => (ys.length : Nat)) :=
  d.F.ok sci_A (fun vs H Q E h => len_mk1 h) fun cdv A outer s H vs Q E hr h => ⟨_, pss_one (ps_expr (pe_clsfn C.cf (oki_C B C 1 (by decide) (by decide) dC) hr (by rfl) C.gC dC.b (pa_cons (pv 0) (pa_cons (pe_callB call_len_seq (by rfl) B.len PySem.boot_len (pa_cons (pv 1) pa_nil)) (pa_cons (pv 1) pa_nil))))), rd_mk1 rd_len h⟩
theorem oki_Y (B : Bl mg) (C : Cf K mg κ CR CC fi_H fi_A fi_Y fi_S fi_C) (dC : Em K "__init__" "Counting.__init__" (mtop 10 0) ["self", "wanted", "parts"] fi_C fdi_C) (d : Em K "__init__" "Any.__init__" (mtop 12 0) ["self", "parts"] fi_Y fdi_Y) : FnOk P w K mg base CX0 2 fi_Y fdi_Y ["self", "parts"] (spMk1 K (κ.adr 2) fun _ => 1) :=
  d.F.ok sci_Y (fun vs H Q E h => len_mk1 h) fun cdv A outer s H vs Q E hr h => ⟨_, pss_one (ps_expr (pe_clsfn C.cf (oki_C B C 2 (by decide) (by decide) dC) hr (by rfl) C.gC dC.b (pa_cons (pv 0) (pa_cons pe_int (pa_cons (pv 1) pa_nil))))), rd_mk1 rd_one h⟩
theorem oki_S (B : Bl mg) (C : Cf K mg κ CR CC fi_H fi_A fi_Y fi_S fi_C) (dC : Em K "__init__" "Counting.__init__" (mtop 10 0) ["self", "wanted", "parts"] fi_C fdi_C) (d : Em K "__init__" "Some.__init__" (mtop 13 0) ["self", "many", "parts"] fi_S fdi_S) : FnOk P w K mg base CX0 2 fi_S fdi_S ["self", "many", "parts"] (spCnt K (κ.adr 3)) :=
  d.F.ok sci_S (fun vs H Q E h => len_cnt h) fun cdv A outer s H vs Q E hr h => ⟨_, pss_one (ps_expr (pe_clsfn C.cf (oki_C B C 3 (by decide) (by decide) dC) hr (by rfl) C.gC dC.b (pa_cons (pv 0) (pa_cons (pv 1) (pa_cons (pv 2) pa_nil))))), rd_mk2 h⟩
end
section
variable {l : PySem.W.OpenLaw} {w : World} {K : PySem.W.Frag} {h : Heap} {mg : Str → Option Value}
theorem all_mk {fa : Addr} (X : K.In h) (G : h.Ns mainGlobals mg) (hfa : mg "law" = some (.ref fa))
    {c_Rule c_Counting c_Hand c_All c_Any c_Some : Addr}
    {od_iH an_iH : Option Addr} {sl_iH : Array (Option Value)} {oc_iH kV_iH dc_iH pm_iH cd_iH ct_iH : Value} {fi_H : Addr}
    {od_iA an_iA : Option Addr} {sl_iA : Array (Option Value)} {oc_iA kV_iA dc_iA pm_iA cd_iA ct_iA : Value} {fi_A : Addr}
    {od_iY an_iY : Option Addr} {sl_iY : Array (Option Value)} {oc_iY kV_iY dc_iY pm_iY cd_iY ct_iY : Value} {fi_Y : Addr}
    {od_iS an_iS : Option Addr} {sl_iS : Array (Option Value)} {oc_iS kV_iS dc_iS pm_iS cd_iS ct_iS : Value} {fi_S : Addr}
    {od_iC an_iC : Option Addr} {sl_iC : Array (Option Value)} {oc_iC kV_iC dc_iC pm_iC cd_iC ct_iC : Value} {fi_C : Addr}
    {od_within an_within : Option Addr} {sl_within : Array (Option Value)} {oc_within kV_within dc_within pm_within cd_within ct_within : Value} {f_within : Addr}
    {od_group_of an_group_of : Option Addr} {sl_group_of : Array (Option Value)} {oc_group_of kV_group_of dc_group_of pm_group_of cd_group_of ct_group_of : Value} {f_group_of : Addr}
    {od_Counting__lets an_Counting__lets : Option Addr} {sl_Counting__lets : Array (Option Value)} {oc_Counting__lets kV_Counting__lets dc_Counting__lets pm_Counting__lets cd_Counting__lets ct_Counting__lets : Value} {f_Counting__lets : Addr}
    {od_Hand__lets an_Hand__lets : Option Addr} {sl_Hand__lets : Array (Option Value)} {oc_Hand__lets kV_Hand__lets dc_Hand__lets pm_Hand__lets cd_Hand__lets ct_Hand__lets : Value} {f_Hand__lets : Addr}
    {od_law_cell_at an_law_cell_at : Option Addr} {sl_law_cell_at : Array (Option Value)} {oc_law_cell_at kV_law_cell_at dc_law_cell_at pm_law_cell_at cd_law_cell_at ct_law_cell_at : Value} {f_law_cell_at : Addr}
    {od_law_name an_law_name : Option Addr} {sl_law_name : Array (Option Value)} {oc_law_name kV_law_name dc_law_name pm_law_name cd_law_name ct_law_name : Value} {f_law_name : Addr}
    {od_law_base an_law_base : Option Addr} {sl_law_base : Array (Option Value)} {oc_law_base kV_law_base dc_law_base pm_law_base cd_law_base ct_law_base : Value} {f_law_base : Addr}
    {od_law_names an_law_names : Option Addr} {sl_law_names : Array (Option Value)} {oc_law_names kV_law_names dc_law_names pm_law_names cd_law_names ct_law_names : Value} {f_law_names : Addr}
    {od_law_roll an_law_roll : Option Addr} {sl_law_roll : Array (Option Value)} {oc_law_roll kV_law_roll dc_law_roll pm_law_roll cd_law_roll ct_law_roll : Value} {f_law_roll : Addr}
    {od_law_counted an_law_counted : Option Addr} {sl_law_counted : Array (Option Value)} {oc_law_counted kV_law_counted dc_law_counted pm_law_counted cd_law_counted ct_law_counted : Value} {f_law_counted : Addr}
    {od_law_folded an_law_folded : Option Addr} {sl_law_folded : Array (Option Value)} {oc_law_folded kV_law_folded dc_law_folded pm_law_folded cd_law_folded ct_law_folded : Value} {f_law_folded : Addr}
    {od_law_hand an_law_hand : Option Addr} {sl_law_hand : Array (Option Value)} {oc_law_hand kV_law_hand dc_law_hand pm_law_hand cd_law_hand ct_law_hand : Value} {f_law_hand : Addr}
    {od_law_built an_law_built : Option Addr} {sl_law_built : Array (Option Value)} {oc_law_built kV_law_built dc_law_built pm_law_built cd_law_built ct_law_built : Value} {f_law_built : Addr}
    {od_law_doubled an_law_doubled : Option Addr} {sl_law_doubled : Array (Option Value)} {oc_law_doubled kV_law_doubled dc_law_doubled pm_law_doubled cd_law_doubled ct_law_doubled : Value} {f_law_doubled : Addr}
    {od_law_holds an_law_holds : Option Addr} {sl_law_holds : Array (Option Value)} {oc_law_holds kV_law_holds dc_law_holds pm_law_holds cd_law_holds ct_law_holds : Value} {f_law_holds : Addr}
    {od_law an_law : Option Addr} {sl_law : Array (Option Value)} {oc_law kV_law dc_law pm_law cd_law ct_law : Value} {f_law : Addr}
    (a_Rule : PySem.W.nsIn K mainGlobals "Rule" = some (some (.ref c_Rule)))
    (a_Counting : PySem.W.nsIn K mainGlobals "Counting" = some (some (.ref c_Counting)))
    (a_Hand : PySem.W.nsIn K mainGlobals "Hand" = some (some (.ref c_Hand)))
    (a_All : PySem.W.nsIn K mainGlobals "All" = some (some (.ref c_All)))
    (a_Any : PySem.W.nsIn K mainGlobals "Any" = some (some (.ref c_Any)))
    (a_Some : PySem.W.nsIn K mainGlobals "Some" = some (some (.ref c_Some)))
    (pg_Hand : PySem.W.plainGet K c_Hand Str.empty = true)
    (hd_Hand : PySem.W.hasDictIn K c_Hand = true)
    (po_Hand : PySem.W.plainOver K c_Hand = true)
    (sa_Hand : PySem.W.findIn K (.ref c_Hand) "__setattr__" = some (some (.builtin "object.__setattr__")))
    (mk_Hand : PySem.W.makesIn K c_Hand = true)
    (kc_Hand : PySem.W.keepIn K (.ref c_Hand) = true)
    (ih_Hand : PySem.W.findIn K (.ref c_Hand) "__class__" = some (some (.builtin "object.__class__")))
    (im_Hand : PySem.W.mroIn K c_Hand (.type "object") = some true)
    (ik_Hand : PySem.W.kitOne K (.ref c_Hand) (.ref c_Rule) = some true)
    (n_Hand_name : PySem.W.findIn K (.ref c_Hand) "name" = some none)
    (pg_All : PySem.W.plainGet K c_All Str.empty = true)
    (hd_All : PySem.W.hasDictIn K c_All = true)
    (po_All : PySem.W.plainOver K c_All = true)
    (sa_All : PySem.W.findIn K (.ref c_All) "__setattr__" = some (some (.builtin "object.__setattr__")))
    (mk_All : PySem.W.makesIn K c_All = true)
    (kc_All : PySem.W.keepIn K (.ref c_All) = true)
    (ih_All : PySem.W.findIn K (.ref c_All) "__class__" = some (some (.builtin "object.__class__")))
    (im_All : PySem.W.mroIn K c_All (.type "object") = some true)
    (ik_All : PySem.W.kitOne K (.ref c_All) (.ref c_Rule) = some true)
    (n_All_wanted : PySem.W.findIn K (.ref c_All) "wanted" = some none)
    (n_All_parts : PySem.W.findIn K (.ref c_All) "parts" = some none)
    (pg_Any : PySem.W.plainGet K c_Any Str.empty = true)
    (hd_Any : PySem.W.hasDictIn K c_Any = true)
    (po_Any : PySem.W.plainOver K c_Any = true)
    (sa_Any : PySem.W.findIn K (.ref c_Any) "__setattr__" = some (some (.builtin "object.__setattr__")))
    (mk_Any : PySem.W.makesIn K c_Any = true)
    (kc_Any : PySem.W.keepIn K (.ref c_Any) = true)
    (ih_Any : PySem.W.findIn K (.ref c_Any) "__class__" = some (some (.builtin "object.__class__")))
    (im_Any : PySem.W.mroIn K c_Any (.type "object") = some true)
    (ik_Any : PySem.W.kitOne K (.ref c_Any) (.ref c_Rule) = some true)
    (n_Any_wanted : PySem.W.findIn K (.ref c_Any) "wanted" = some none)
    (n_Any_parts : PySem.W.findIn K (.ref c_Any) "parts" = some none)
    (pg_Some : PySem.W.plainGet K c_Some Str.empty = true)
    (hd_Some : PySem.W.hasDictIn K c_Some = true)
    (po_Some : PySem.W.plainOver K c_Some = true)
    (sa_Some : PySem.W.findIn K (.ref c_Some) "__setattr__" = some (some (.builtin "object.__setattr__")))
    (mk_Some : PySem.W.makesIn K c_Some = true)
    (kc_Some : PySem.W.keepIn K (.ref c_Some) = true)
    (ih_Some : PySem.W.findIn K (.ref c_Some) "__class__" = some (some (.builtin "object.__class__")))
    (im_Some : PySem.W.mroIn K c_Some (.type "object") = some true)
    (ik_Some : PySem.W.kitOne K (.ref c_Some) (.ref c_Rule) = some true)
    (n_Some_wanted : PySem.W.findIn K (.ref c_Some) "wanted" = some none)
    (n_Some_parts : PySem.W.findIn K (.ref c_Some) "parts" = some none)
    (in_ : PySem.W.specialIn K (.builtin "object.__class__") "__get__" = some (some (.builtin "getset_descriptor.__get__")))
    (it_ : PySem.W.takesIn K (.builtin "object.__class__") = some true)
    (fiH : PySem.W.findIn K (.ref c_Hand) "__init__" = some (some (.ref fi_H)))
    (fnH : PySem.W.isFn K (.ref fi_H) = true)
    (l_iH : K.lookup fi_H = some ⟨oc_iH, od_iH, .func (PySem.W.fnOf "__init__" "Hand.__init__" (defArgs (mtop 9 0)) (defBody (mtop 9 0)) (defScope (mtop 9 0)) .none kV_iH dc_iH pm_iH an_iH cd_iH ct_iH), sl_iH⟩)
    (c_iH : PySem.W.codeIn K cd_iH "Hand.__init__" = true)
    (k_iH : PySem.W.keepIn K (.ref fi_H) = true)
    (fiA : PySem.W.findIn K (.ref c_All) "__init__" = some (some (.ref fi_A)))
    (fnA : PySem.W.isFn K (.ref fi_A) = true)
    (l_iA : K.lookup fi_A = some ⟨oc_iA, od_iA, .func (PySem.W.fnOf "__init__" "All.__init__" (defArgs (mtop 11 0)) (defBody (mtop 11 0)) (defScope (mtop 11 0)) .none kV_iA dc_iA pm_iA an_iA cd_iA ct_iA), sl_iA⟩)
    (c_iA : PySem.W.codeIn K cd_iA "All.__init__" = true)
    (k_iA : PySem.W.keepIn K (.ref fi_A) = true)
    (fiY : PySem.W.findIn K (.ref c_Any) "__init__" = some (some (.ref fi_Y)))
    (fnY : PySem.W.isFn K (.ref fi_Y) = true)
    (l_iY : K.lookup fi_Y = some ⟨oc_iY, od_iY, .func (PySem.W.fnOf "__init__" "Any.__init__" (defArgs (mtop 12 0)) (defBody (mtop 12 0)) (defScope (mtop 12 0)) .none kV_iY dc_iY pm_iY an_iY cd_iY ct_iY), sl_iY⟩)
    (c_iY : PySem.W.codeIn K cd_iY "Any.__init__" = true)
    (k_iY : PySem.W.keepIn K (.ref fi_Y) = true)
    (fiS : PySem.W.findIn K (.ref c_Some) "__init__" = some (some (.ref fi_S)))
    (fnS : PySem.W.isFn K (.ref fi_S) = true)
    (l_iS : K.lookup fi_S = some ⟨oc_iS, od_iS, .func (PySem.W.fnOf "__init__" "Some.__init__" (defArgs (mtop 13 0)) (defBody (mtop 13 0)) (defScope (mtop 13 0)) .none kV_iS dc_iS pm_iS an_iS cd_iS ct_iS), sl_iS⟩)
    (c_iS : PySem.W.codeIn K cd_iS "Some.__init__" = true)
    (k_iS : PySem.W.keepIn K (.ref fi_S) = true)
    (fiC : PySem.W.findIn K (.ref c_Counting) "__init__" = some (some (.ref fi_C)))
    (fnC : PySem.W.isFn K (.ref fi_C) = true)
    (l_iC : K.lookup fi_C = some ⟨oc_iC, od_iC, .func (PySem.W.fnOf "__init__" "Counting.__init__" (defArgs (mtop 10 0)) (defBody (mtop 10 0)) (defScope (mtop 10 0)) .none kV_iC dc_iC pm_iC an_iC cd_iC ct_iC), sl_iC⟩)
    (c_iC : PySem.W.codeIn K cd_iC "Counting.__init__" = true)
    (k_iC : PySem.W.keepIn K (.ref fi_C) = true)
    (rdC : PySem.W.readsIn K c_Counting (.type "type") = true)
    (fcC : PySem.W.findCls K (.ref c_Counting) (.type "type") "__init__" = some (.val (.ref fi_C)))
    (gaC : PySem.W.specialIn K (.ref c_Counting) "__getattribute__" = some (some (.builtin "type.__getattribute__")))
    (hdC : PySem.W.handedIn (.ref fi_C) = true)
    (a_within : PySem.W.nsIn K mainGlobals "within" = some (some (.ref f_within)))
    (l_within : K.lookup f_within = some ⟨oc_within, od_within, .func (PySem.W.fnOf "within" "within" (defArgs (top 6)) (defBody (top 6)) (defScope (top 6)) .none kV_within dc_within pm_within an_within cd_within ct_within), sl_within⟩)
    (cd__within : PySem.W.codeIn K cd_within "within" = true)
    (k_within : PySem.W.keepIn K (.ref f_within) = true)
    (a_group_of : PySem.W.nsIn K mainGlobals "group_of" = some (some (.ref f_group_of)))
    (l_group_of : K.lookup f_group_of = some ⟨oc_group_of, od_group_of, .func (PySem.W.fnOf "group_of" "group_of" (defArgs (top 5)) (defBody (top 5)) (defScope (top 5)) .none kV_group_of dc_group_of pm_group_of an_group_of cd_group_of ct_group_of), sl_group_of⟩)
    (cd__group_of : PySem.W.codeIn K cd_group_of "group_of" = true)
    (k_group_of : PySem.W.keepIn K (.ref f_group_of) = true)
    (mf_All_lets : PySem.W.findIn K (.ref c_All) "lets" = some (some (.ref f_Counting__lets)))
    (mf_Any_lets : PySem.W.findIn K (.ref c_Any) "lets" = some (some (.ref f_Counting__lets)))
    (mf_Some_lets : PySem.W.findIn K (.ref c_Some) "lets" = some (some (.ref f_Counting__lets)))
    (fn_Counting__lets : PySem.W.isFn K (.ref f_Counting__lets) = true)
    (l_Counting__lets : K.lookup f_Counting__lets = some ⟨oc_Counting__lets, od_Counting__lets, .func (PySem.W.fnOf "lets" "Counting.lets" (defArgs (mtop 10 1)) (defBody (mtop 10 1)) (defScope (mtop 10 1)) .none kV_Counting__lets dc_Counting__lets pm_Counting__lets an_Counting__lets cd_Counting__lets ct_Counting__lets), sl_Counting__lets⟩)
    (cd__Counting__lets : PySem.W.codeIn K cd_Counting__lets "Counting.lets" = true)
    (k_Counting__lets : PySem.W.keepIn K (.ref f_Counting__lets) = true)
    (mf_Hand_lets : PySem.W.findIn K (.ref c_Hand) "lets" = some (some (.ref f_Hand__lets)))
    (fn_Hand__lets : PySem.W.isFn K (.ref f_Hand__lets) = true)
    (l_Hand__lets : K.lookup f_Hand__lets = some ⟨oc_Hand__lets, od_Hand__lets, .func (PySem.W.fnOf "lets" "Hand.lets" (defArgs (mtop 9 3)) (defBody (mtop 9 3)) (defScope (mtop 9 3)) .none kV_Hand__lets dc_Hand__lets pm_Hand__lets an_Hand__lets cd_Hand__lets ct_Hand__lets), sl_Hand__lets⟩)
    (cd__Hand__lets : PySem.W.codeIn K cd_Hand__lets "Hand.lets" = true)
    (k_Hand__lets : PySem.W.keepIn K (.ref f_Hand__lets) = true)
    (a_law_cell_at : PySem.W.nsIn K mainGlobals "_law_cell_at" = some (some (.ref f_law_cell_at)))
    (l_law_cell_at : K.lookup f_law_cell_at = some ⟨oc_law_cell_at, od_law_cell_at, .func (PySem.W.fnOf "_law_cell_at" "_law_cell_at" (defArgs (top 15)) (defBody (top 15)) (defScope (top 15)) .none kV_law_cell_at dc_law_cell_at pm_law_cell_at an_law_cell_at cd_law_cell_at ct_law_cell_at), sl_law_cell_at⟩)
    (cd__law_cell_at : PySem.W.codeIn K cd_law_cell_at "_law_cell_at" = true)
    (k_law_cell_at : PySem.W.keepIn K (.ref f_law_cell_at) = true)
    (a_law_name : PySem.W.nsIn K mainGlobals "_law_name" = some (some (.ref f_law_name)))
    (l_law_name : K.lookup f_law_name = some ⟨oc_law_name, od_law_name, .func (PySem.W.fnOf "_law_name" "_law_name" (defArgs (top 17)) (defBody (top 17)) (defScope (top 17)) .none kV_law_name dc_law_name pm_law_name an_law_name cd_law_name ct_law_name), sl_law_name⟩)
    (cd__law_name : PySem.W.codeIn K cd_law_name "_law_name" = true)
    (k_law_name : PySem.W.keepIn K (.ref f_law_name) = true)
    (a_law_base : PySem.W.nsIn K mainGlobals "_law_base" = some (some (.ref f_law_base)))
    (l_law_base : K.lookup f_law_base = some ⟨oc_law_base, od_law_base, .func (PySem.W.fnOf "_law_base" "_law_base" (defArgs (top 16)) (defBody (top 16)) (defScope (top 16)) .none kV_law_base dc_law_base pm_law_base an_law_base cd_law_base ct_law_base), sl_law_base⟩)
    (cd__law_base : PySem.W.codeIn K cd_law_base "_law_base" = true)
    (k_law_base : PySem.W.keepIn K (.ref f_law_base) = true)
    (a_law_names : PySem.W.nsIn K mainGlobals "_law_names" = some (some (.ref f_law_names)))
    (l_law_names : K.lookup f_law_names = some ⟨oc_law_names, od_law_names, .func (PySem.W.fnOf "_law_names" "_law_names" (defArgs (top 18)) (defBody (top 18)) (defScope (top 18)) .none kV_law_names dc_law_names pm_law_names an_law_names cd_law_names ct_law_names), sl_law_names⟩)
    (cd__law_names : PySem.W.codeIn K cd_law_names "_law_names" = true)
    (k_law_names : PySem.W.keepIn K (.ref f_law_names) = true)
    (a_law_roll : PySem.W.nsIn K mainGlobals "_law_roll" = some (some (.ref f_law_roll)))
    (l_law_roll : K.lookup f_law_roll = some ⟨oc_law_roll, od_law_roll, .func (PySem.W.fnOf "_law_roll" "_law_roll" (defArgs (top 19)) (defBody (top 19)) (defScope (top 19)) .none kV_law_roll dc_law_roll pm_law_roll an_law_roll cd_law_roll ct_law_roll), sl_law_roll⟩)
    (cd__law_roll : PySem.W.codeIn K cd_law_roll "_law_roll" = true)
    (k_law_roll : PySem.W.keepIn K (.ref f_law_roll) = true)
    (a_law_counted : PySem.W.nsIn K mainGlobals "_law_counted" = some (some (.ref f_law_counted)))
    (l_law_counted : K.lookup f_law_counted = some ⟨oc_law_counted, od_law_counted, .func (PySem.W.fnOf "_law_counted" "_law_counted" (defArgs (top 21)) (defBody (top 21)) (defScope (top 21)) .none kV_law_counted dc_law_counted pm_law_counted an_law_counted cd_law_counted ct_law_counted), sl_law_counted⟩)
    (cd__law_counted : PySem.W.codeIn K cd_law_counted "_law_counted" = true)
    (k_law_counted : PySem.W.keepIn K (.ref f_law_counted) = true)
    (a_law_folded : PySem.W.nsIn K mainGlobals "_law_folded" = some (some (.ref f_law_folded)))
    (l_law_folded : K.lookup f_law_folded = some ⟨oc_law_folded, od_law_folded, .func (PySem.W.fnOf "_law_folded" "_law_folded" (defArgs (top 22)) (defBody (top 22)) (defScope (top 22)) .none kV_law_folded dc_law_folded pm_law_folded an_law_folded cd_law_folded ct_law_folded), sl_law_folded⟩)
    (cd__law_folded : PySem.W.codeIn K cd_law_folded "_law_folded" = true)
    (k_law_folded : PySem.W.keepIn K (.ref f_law_folded) = true)
    (a_law_hand : PySem.W.nsIn K mainGlobals "_law_hand" = some (some (.ref f_law_hand)))
    (l_law_hand : K.lookup f_law_hand = some ⟨oc_law_hand, od_law_hand, .func (PySem.W.fnOf "_law_hand" "_law_hand" (defArgs (top 20)) (defBody (top 20)) (defScope (top 20)) .none kV_law_hand dc_law_hand pm_law_hand an_law_hand cd_law_hand ct_law_hand), sl_law_hand⟩)
    (cd__law_hand : PySem.W.codeIn K cd_law_hand "_law_hand" = true)
    (k_law_hand : PySem.W.keepIn K (.ref f_law_hand) = true)
    (a_law_built : PySem.W.nsIn K mainGlobals "_law_built" = some (some (.ref f_law_built)))
    (l_law_built : K.lookup f_law_built = some ⟨oc_law_built, od_law_built, .func (PySem.W.fnOf "_law_built" "_law_built" (defArgs (top 23)) (defBody (top 23)) (defScope (top 23)) .none kV_law_built dc_law_built pm_law_built an_law_built cd_law_built ct_law_built), sl_law_built⟩)
    (cd__law_built : PySem.W.codeIn K cd_law_built "_law_built" = true)
    (k_law_built : PySem.W.keepIn K (.ref f_law_built) = true)
    (a_law_doubled : PySem.W.nsIn K mainGlobals "_law_doubled" = some (some (.ref f_law_doubled)))
    (l_law_doubled : K.lookup f_law_doubled = some ⟨oc_law_doubled, od_law_doubled, .func (PySem.W.fnOf "_law_doubled" "_law_doubled" (defArgs (top 24)) (defBody (top 24)) (defScope (top 24)) .none kV_law_doubled dc_law_doubled pm_law_doubled an_law_doubled cd_law_doubled ct_law_doubled), sl_law_doubled⟩)
    (cd__law_doubled : PySem.W.codeIn K cd_law_doubled "_law_doubled" = true)
    (k_law_doubled : PySem.W.keepIn K (.ref f_law_doubled) = true)
    (a_law_holds : PySem.W.nsIn K mainGlobals "_law_holds" = some (some (.ref f_law_holds)))
    (l_law_holds : K.lookup f_law_holds = some ⟨oc_law_holds, od_law_holds, .func (PySem.W.fnOf "_law_holds" "_law_holds" (defArgs (top 25)) (defBody (top 25)) (defScope (top 25)) .none kV_law_holds dc_law_holds pm_law_holds an_law_holds cd_law_holds ct_law_holds), sl_law_holds⟩)
    (cd__law_holds : PySem.W.codeIn K cd_law_holds "_law_holds" = true)
    (k_law_holds : PySem.W.keepIn K (.ref f_law_holds) = true)
    (a_law : PySem.W.nsIn K mainGlobals "law" = some (some (.ref f_law)))
    (l_law : K.lookup f_law = some ⟨oc_law, od_law, .func (PySem.W.fnOf "law" "law" (defArgs (top 26)) (defBody (top 26)) (defScope (top 26)) .none kV_law dc_law pm_law an_law cd_law ct_law), sl_law⟩)
    (cd__law : PySem.W.codeIn K cd_law "law" = true)
    (k_law : PySem.W.keepIn K (.ref f_law) = true)
    (z_bool : PySem.W.nsIn K mainGlobals "bool" = some none)
    (z_isinstance : PySem.W.nsIn K mainGlobals "isinstance" = some none)
    (z_len : PySem.W.nsIn K mainGlobals "len" = some none)
    (z_list : PySem.W.nsIn K mainGlobals "list" = some none)
    (z_max : PySem.W.nsIn K mainGlobals "max" = some none)
    (z_range : PySem.W.nsIn K mainGlobals "range" = some none)
    (z_str : PySem.W.nsIn K mainGlobals "str" = some none)
    (z_tuple : PySem.W.nsIn K mainGlobals "tuple" = some none)
    : ∃ (κ : Kl) (fd : FuncData), (∀ (s : Shared) (v : Value), BindsTo s fd ⟨[v], []⟩ [("_law_script", v)]) ∧ ∀ base : Heap, K.In base → base.Ns mainGlobals mg → FnOk l.prog w K mg base CX0 27 fa fd ["_law_script"] (spD K κ false F_law) := by
  have e := hfa.symm.trans (PySem.W.mg_of X G a_law)
  cases e
  have F1_within := fun_mk (st := (top 6)) l_within cd__within k_within
  have d_within : Ed K mg "within" (top 6) ["one", "two"] _ _ := ⟨F1_within, F1_within.binds (ps := ["one", "two"]) fun _ _ _ _ _ _ us hl => by obtain ⟨a0, a1, rfl⟩ := len2 hl; rfl, PySem.W.mg_of X G a_within⟩
  have F1_group_of := fun_mk (st := (top 5)) l_group_of cd__group_of k_group_of
  have d_group_of : Ed K mg "group_of" (top 5) ["roll", "names"] _ _ := ⟨F1_group_of, F1_group_of.binds (ps := ["roll", "names"]) fun _ _ _ _ _ _ us hl => by obtain ⟨a0, a1, rfl⟩ := len2 hl; rfl, PySem.W.mg_of X G a_group_of⟩
  have F1_Counting__lets := fun_mk (st := (mtop 10 1)) l_Counting__lets cd__Counting__lets k_Counting__lets
  have d_Counting__lets : Em K "lets" "Counting.lets" (mtop 10 1) ["self", "roll", "group"] _ _ := ⟨F1_Counting__lets, F1_Counting__lets.binds (ps := ["self", "roll", "group"]) fun _ _ _ _ _ _ us hl => by obtain ⟨a0, a1, a2, rfl⟩ := len3 hl; rfl⟩
  have F1_Hand__lets := fun_mk (st := (mtop 9 3)) l_Hand__lets cd__Hand__lets k_Hand__lets
  have d_Hand__lets : Em K "lets" "Hand.lets" (mtop 9 3) ["self", "roll", "group"] _ _ := ⟨F1_Hand__lets, F1_Hand__lets.binds (ps := ["self", "roll", "group"]) fun _ _ _ _ _ _ us hl => by obtain ⟨a0, a1, a2, rfl⟩ := len3 hl; rfl⟩
  have F1_law_cell_at := fun_mk (st := (top 15)) l_law_cell_at cd__law_cell_at k_law_cell_at
  have d_law_cell_at : Ed K mg "_law_cell_at" (top 15) ["_law_script", "_law_k"] _ _ := ⟨F1_law_cell_at, F1_law_cell_at.binds (ps := ["_law_script", "_law_k"]) fun _ _ _ _ _ _ us hl => by obtain ⟨a0, a1, rfl⟩ := len2 hl; rfl, PySem.W.mg_of X G a_law_cell_at⟩
  have F1_law_name := fun_mk (st := (top 17)) l_law_name cd__law_name k_law_name
  have d_law_name : Ed K mg "_law_name" (top 17) ["_law_base_here", "_law_place", "_law_size", "_law_k"] _ _ := ⟨F1_law_name, F1_law_name.binds (ps := ["_law_base_here", "_law_place", "_law_size", "_law_k"]) fun _ _ _ _ _ _ us hl => by obtain ⟨a0, a1, a2, a3, rfl⟩ := len4 hl; rfl, PySem.W.mg_of X G a_law_name⟩
  have F1_law_base := fun_mk (st := (top 16)) l_law_base cd__law_base k_law_base
  have d_law_base : Ed K mg "_law_base" (top 16) ["_law_cell", "_law_size"] _ _ := ⟨F1_law_base, F1_law_base.binds (ps := ["_law_cell", "_law_size"]) fun _ _ _ _ _ _ us hl => by obtain ⟨a0, a1, rfl⟩ := len2 hl; rfl, PySem.W.mg_of X G a_law_base⟩
  have F1_law_names := fun_mk (st := (top 18)) l_law_names cd__law_names k_law_names
  have d_law_names : Ed K mg "_law_names" (top 18) ["_law_script", "_law_at", "_law_many"] _ _ := ⟨F1_law_names, F1_law_names.binds (ps := ["_law_script", "_law_at", "_law_many"]) fun _ _ _ _ _ _ us hl => by obtain ⟨a0, a1, a2, rfl⟩ := len3 hl; rfl, PySem.W.mg_of X G a_law_names⟩
  have F1_law_roll := fun_mk (st := (top 19)) l_law_roll cd__law_roll k_law_roll
  have d_law_roll : Ed K mg "_law_roll" (top 19) ["_law_script"] _ _ := ⟨F1_law_roll, F1_law_roll.binds (ps := ["_law_script"]) fun _ _ _ _ _ _ us hl => by obtain ⟨a0, rfl⟩ := len1 hl; rfl, PySem.W.mg_of X G a_law_roll⟩
  have F1_law_counted := fun_mk (st := (top 21)) l_law_counted cd__law_counted k_law_counted
  have d_law_counted : Ed K mg "_law_counted" (top 21) ["_law_kind", "_law_many", "_law_items"] _ _ := ⟨F1_law_counted, F1_law_counted.binds (ps := ["_law_kind", "_law_many", "_law_items"]) fun _ _ _ _ _ _ us hl => by obtain ⟨a0, a1, a2, rfl⟩ := len3 hl; rfl, PySem.W.mg_of X G a_law_counted⟩
  have F1_law_folded := fun_mk (st := (top 22)) l_law_folded cd__law_folded k_law_folded
  have d_law_folded : Ed K mg "_law_folded" (top 22) ["_law_pile", "_law_cell"] _ _ := ⟨F1_law_folded, F1_law_folded.binds (ps := ["_law_pile", "_law_cell"]) fun _ _ _ _ _ _ us hl => by obtain ⟨a0, a1, rfl⟩ := len2 hl; rfl, PySem.W.mg_of X G a_law_folded⟩
  have F1_law_hand := fun_mk (st := (top 20)) l_law_hand cd__law_hand k_law_hand
  have d_law_hand : Ed K mg "_law_hand" (top 20) ["_law_name_here"] _ _ := ⟨F1_law_hand, F1_law_hand.binds (ps := ["_law_name_here"]) fun _ _ _ _ _ _ us hl => by obtain ⟨a0, rfl⟩ := len1 hl; rfl, PySem.W.mg_of X G a_law_hand⟩
  have F1_law_built := fun_mk (st := (top 23)) l_law_built cd__law_built k_law_built
  have d_law_built : Ed K mg "_law_built" (top 23) ["_law_script", "_law_at", "_law_size", "_law_roll_here"] _ _ := ⟨F1_law_built, F1_law_built.binds (ps := ["_law_script", "_law_at", "_law_size", "_law_roll_here"]) fun _ _ _ _ _ _ us hl => by obtain ⟨a0, a1, a2, a3, rfl⟩ := len4 hl; rfl, PySem.W.mg_of X G a_law_built⟩
  have F1_law_doubled := fun_mk (st := (top 24)) l_law_doubled cd__law_doubled k_law_doubled
  have d_law_doubled : Ed K mg "_law_doubled" (top 24) ["_law_script", "_law_roll_here"] _ _ := ⟨F1_law_doubled, F1_law_doubled.binds (ps := ["_law_script", "_law_roll_here"]) fun _ _ _ _ _ _ us hl => by obtain ⟨a0, a1, rfl⟩ := len2 hl; rfl, PySem.W.mg_of X G a_law_doubled⟩
  have F1_law_holds := fun_mk (st := (top 25)) l_law_holds cd__law_holds k_law_holds
  have d_law_holds : Ed K mg "_law_holds" (top 25) ["_law_shape", "_law_roll_here", "_law_group"] _ _ := ⟨F1_law_holds, F1_law_holds.binds (ps := ["_law_shape", "_law_roll_here", "_law_group"]) fun _ _ _ _ _ _ us hl => by obtain ⟨a0, a1, a2, rfl⟩ := len3 hl; rfl, PySem.W.mg_of X G a_law_holds⟩
  have F1_law := fun_mk (st := (top 26)) l_law cd__law k_law
  have d_law : Ed K mg "law" (top 26) ["_law_script"] _ _ := ⟨F1_law, F1_law.binds (ps := ["_law_script"]) fun _ _ _ _ _ _ us hl => by obtain ⟨a0, rfl⟩ := len1 hl; rfl, PySem.W.mg_of X G a_law⟩
  have F1_iH := fun_mk (st := (mtop 9 0)) l_iH c_iH k_iH
  have d_iH : Em K "__init__" "Hand.__init__" (mtop 9 0) ["self", "name"] _ _ := ⟨F1_iH, F1_iH.binds (ps := ["self", "name"]) fun _ _ _ _ _ _ us hl => by obtain ⟨a0, a1, rfl⟩ := len2 hl; rfl⟩
  have F1_iA := fun_mk (st := (mtop 11 0)) l_iA c_iA k_iA
  have d_iA : Em K "__init__" "All.__init__" (mtop 11 0) ["self", "parts"] _ _ := ⟨F1_iA, F1_iA.binds (ps := ["self", "parts"]) fun _ _ _ _ _ _ us hl => by obtain ⟨a0, a1, rfl⟩ := len2 hl; rfl⟩
  have F1_iY := fun_mk (st := (mtop 12 0)) l_iY c_iY k_iY
  have d_iY : Em K "__init__" "Any.__init__" (mtop 12 0) ["self", "parts"] _ _ := ⟨F1_iY, F1_iY.binds (ps := ["self", "parts"]) fun _ _ _ _ _ _ us hl => by obtain ⟨a0, a1, rfl⟩ := len2 hl; rfl⟩
  have F1_iS := fun_mk (st := (mtop 13 0)) l_iS c_iS k_iS
  have d_iS : Em K "__init__" "Some.__init__" (mtop 13 0) ["self", "many", "parts"] _ _ := ⟨F1_iS, F1_iS.binds (ps := ["self", "many", "parts"]) fun _ _ _ _ _ _ us hl => by obtain ⟨a0, a1, a2, rfl⟩ := len3 hl; rfl⟩
  have F1_iC := fun_mk (st := (mtop 10 0)) l_iC c_iC k_iC
  have d_iC : Em K "__init__" "Counting.__init__" (mtop 10 0) ["self", "wanted", "parts"] _ _ := ⟨F1_iC, F1_iC.binds (ps := ["self", "wanted", "parts"]) fun _ _ _ _ _ _ us hl => by obtain ⟨a0, a1, a2, rfl⟩ := len3 hl; rfl⟩
  have B : Bl mg := ⟨PySem.W.mg_none_of X G z_bool, PySem.W.mg_none_of X G z_isinstance, PySem.W.mg_none_of X G z_len, PySem.W.mg_none_of X G z_list, PySem.W.mg_none_of X G z_max, PySem.W.mg_none_of X G z_range, PySem.W.mg_none_of X G z_str, PySem.W.mg_none_of X G z_tuple⟩
  let κ : Kl := ⟨fun c => match c with | 0 => c_Hand | 1 => c_All | 2 => c_Any | _ => c_Some, ftR⟩
  have C : Cf K mg κ c_Rule c_Counting fi_H fi_A fi_Y fi_S fi_C := ⟨rfl, fun c hc => match c, hc with | 0, _ => ⟨pg_Hand, hd_Hand, po_Hand, sa_Hand⟩ | 1, _ => ⟨pg_All, hd_All, po_All, sa_All⟩ | 2, _ => ⟨pg_Any, hd_Any, po_Any, sa_Any⟩ | 3, _ => ⟨pg_Some, hd_Some, po_Some, sa_Some⟩ | _ + 4, hc => absurd hc (by omega), n_Hand_name, fun c h0 hc => match c, h0, hc with | 0, h0, _ => absurd h0 (by omega) | 1, _, _ => n_All_wanted | 2, _, _ => n_Any_wanted | 3, _, _ => n_Some_wanted | _ + 4, _, hc => absurd hc (by omega), fun c h0 hc => match c, h0, hc with | 0, h0, _ => absurd h0 (by omega) | 1, _, _ => n_All_parts | 2, _, _ => n_Any_parts | 3, _, _ => n_Some_parts | _ + 4, _, hc => absurd hc (by omega), ⟨mk_Hand, fiH, fnH, kc_Hand⟩, ⟨mk_All, fiA, fnA, kc_All⟩, ⟨mk_Any, fiY, fnY, kc_Any⟩, ⟨mk_Some, fiS, fnS, kc_Some⟩, PySem.W.mg_of X G a_Hand, PySem.W.mg_of X G a_All, PySem.W.mg_of X G a_Any, PySem.W.mg_of X G a_Some, ⟨⟨_, rdC, fcC⟩, gaC, hdC, k_iC⟩, PySem.W.mg_of X G a_Counting, fun c hc => match c, hc with | 0, _ => ⟨⟨pg_Hand, hd_Hand, po_Hand, sa_Hand⟩, ih_Hand, in_, it_, im_Hand, ik_Hand⟩ | 1, _ => ⟨⟨pg_All, hd_All, po_All, sa_All⟩, ih_All, in_, it_, im_All, ik_All⟩ | 2, _ => ⟨⟨pg_Any, hd_Any, po_Any, sa_Any⟩, ih_Any, in_, it_, im_Any, ik_Any⟩ | 3, _ => ⟨⟨pg_Some, hd_Some, po_Some, sa_Some⟩, ih_Some, in_, it_, im_Some, ik_Some⟩ | _ + 4, hc => absurd hc (by omega), PySem.W.mg_of X G a_Rule⟩
  refine ⟨κ, PySem.W.fnOf "law" "law" (defArgs (top 26)) (defBody (top 26)) (defScope (top 26)) .none kV_law dc_law pm_law an_law cd_law ct_law, fun s v => .of_eq rfl, fun base _ _ => ?_⟩
  have GI_H := oki_H (P := l.prog) (w := w) (base := base) B C d_iH
  have bi_H := d_iH.b
  have GI_A := oki_A (P := l.prog) (w := w) (base := base) B C d_iC d_iA
  have bi_A := d_iA.b
  have GI_Y := oki_Y (P := l.prog) (w := w) (base := base) B C d_iC d_iY
  have bi_Y := d_iY.b
  have GI_S := oki_S (P := l.prog) (w := w) (base := base) B C d_iC d_iS
  have bi_S := d_iS.b
  have G_within := ok_within (P := l.prog) (w := w) (base := base) (κ := κ) B d_within
  have G_group_of := ok_group_of (P := l.prog) (w := w) (base := base) (κ := κ) B d_group_of
  have m_Hand_lets : Meth K (κ.adr 0) "lets" f_Hand__lets := ⟨mf_Hand_lets, fn_Hand__lets, k_Hand__lets⟩
  have m_All_lets : Meth K (κ.adr 1) "lets" f_Counting__lets := ⟨mf_All_lets, fn_Counting__lets, k_Counting__lets⟩
  have m_Any_lets : Meth K (κ.adr 2) "lets" f_Counting__lets := ⟨mf_Any_lets, fn_Counting__lets, k_Counting__lets⟩
  have m_Some_lets : Meth K (κ.adr 3) "lets" f_Counting__lets := ⟨mf_Some_lets, fn_Counting__lets, k_Counting__lets⟩
  have M_lets : MethOk l.prog w K mg base κ false "lets" 26 _ T_lets := mok_lets (P := l.prog) (w := w) (base := base) B C d_Counting__lets d_Hand__lets m_Hand_lets m_All_lets m_Any_lets m_Some_lets d_within G_within d_group_of G_group_of 24
  have G_law_cell_at := ok_law_cell_at (P := l.prog) (w := w) (base := base) (κ := κ) B d_law_cell_at
  have G_law_name := ok_law_name (P := l.prog) (w := w) (base := base) (κ := κ) B d_law_name
  have G_law_base := ok_law_base (P := l.prog) (w := w) (base := base) (κ := κ) B d_law_base
  have G_law_names := ok_law_names (P := l.prog) (w := w) (base := base) (κ := κ) B d_law_names d_law_cell_at G_law_cell_at d_law_name G_law_name d_law_base G_law_base
  have G_law_roll := ok_law_roll (P := l.prog) (w := w) (base := base) (κ := κ) B d_law_roll d_law_names G_law_names d_law_cell_at G_law_cell_at
  have G_law_counted := ok_law_counted (P := l.prog) (w := w) (base := base) (κ := κ) B d_law_counted C GI_A bi_A GI_Y bi_Y GI_S bi_S
  have G_law_folded := ok_law_folded (P := l.prog) (w := w) (base := base) (κ := κ) B d_law_folded d_law_counted G_law_counted
  have G_law_hand := ok_law_hand (P := l.prog) (w := w) (base := base) (κ := κ) B d_law_hand C GI_H bi_H
  have G_law_built := ok_law_built (P := l.prog) (w := w) (base := base) (κ := κ) B d_law_built d_law_folded G_law_folded d_law_hand G_law_hand d_law_cell_at G_law_cell_at d_law_counted G_law_counted
  have G_law_doubled := ok_law_doubled (P := l.prog) (w := w) (base := base) (κ := κ) B d_law_doubled d_law_cell_at G_law_cell_at d_law_built G_law_built d_law_counted G_law_counted d_law_hand G_law_hand
  have G_law_holds := ok_law_holds (P := l.prog) (w := w) (base := base) (κ := κ) B d_law_holds
  have G_law := ok_law (P := l.prog) (w := w) (base := base) (κ := κ) B d_law C M_lets d_law_roll G_law_roll d_law_doubled G_law_doubled d_law_cell_at G_law_cell_at d_law_holds G_law_holds
  exact G_law
end
end L2.D.My
set_option Elab.async false
set_option linter.all false
set_option maxRecDepth 100000
set_option maxHeartbeats 2000000
namespace L2.D.My
open PySem
theorem gEqF_int (i j : Int) : gEqF (.int i) (.int j) = some (.bl (decide (i = j))) := rfl
theorem gEqF_nat (a b : Nat) : gEqF (.int a) (.int b) = some (.bl (decide (a = b))) := by
  rw [gEqF_int]
  congr 2
  rw [decide_eq_decide]
  omega
theorem gNeF_bl (i j : Bool) : gNeF (.bl i) (.bl j) = some (.bl (!decide (i = j))) := rfl
theorem forL_nx {i : Nat} {body : DenS} {x : PV} {xs : List PV} {ρ ρ' : Sto} (h : body (ρ.set i (.sh x)) = some (.nx ρ')) : forL (gtName i) body (x :: xs) ρ = forL (gtName i) body xs ρ' := by
  rw [forL_eq]
  show (body (ρ.set i (.sh x))).bind _ = _
  rw [h]
  rfl
theorem base_step (s0 s1 : Slot) {m : Int} (h0 : 0 ≤ m) (h1 : m < 2147483647) {x : Str} (hx : x.length ≤ 100) (k : Nat) : ∃ m' x', 0 ≤ m' ∧ m' < 2147483647 ∧ x'.length = x.length + 1 ∧ b_law_base_1 [s0, s1, .sh (.int m), .sh (.str x), .sh (.int k)] = some (.nx [s0, s1, .sh (.int m'), .sh (.str x'), .sh (.int k)]) := by
  have e1 : dBin gMod (dBin gAdd (dBin gAdd (dBin gAdd (dBin gMul (dV 2) (dV 2)) (dBin gMul (dC (.int 48271)) (dV 2))) (dV 4)) (dC (.int 1))) (dC (.int 2147483647)) [s0, s1, .sh (.int m), .sh (.str x), .sh (.int k)] = some (.int ((m * m + 48271 * m + k + 1) % 2147483647)) := by
    refine (dBin_eq (x := .int (m * m + 48271 * m + k + 1)) (y := .int 2147483647) ?_ rfl).trans (gMod_pos _ (by decide))
    refine (dBin_eq (x := .int (m * m + 48271 * m + k)) (y := .int 1) ?_ rfl).trans rfl
    refine (dBin_eq (x := .int (m * m + 48271 * m)) (y := .int k) ?_ rfl).trans rfl
    refine (dBin_eq ((dBin_eq (x := .int m) (y := .int m) rfl rfl).trans (mul_small (by omega) (by omega))) ((dBin_eq (x := .int 48271) (y := .int m) rfl rfl).trans (mul_small (by omega) (by omega)))).trans rfl
  have b1 := Int.emod_nonneg (m * m + 48271 * m + k + 1) (show (2147483647 : Int) ≠ 0 by decide)
  have b2 := Int.emod_lt_of_pos (m * m + 48271 * m + k + 1) (show (0 : Int) < 2147483647 by decide)
  generalize (m * m + 48271 * m + k + 1) % 2147483647 = m' at e1 b1 b2
  have b3 := mod_lt m' (n := 26) (by decide)
  obtain ⟨y, hy, ey⟩ := alph_ix b3
  refine ⟨m', x ++ y, b1, b2, by rw [app_len, hy], (sSeq_nx (sSet_eq e1)).trans (sSet_eq ?_)⟩
  refine (dBin_eq (x := .str x) (y := .str y) rfl ?_).trans (gAdd_str _ _ (by omega))
  exact (dBin_eq (x := .str alph) rfl ((dBin_eq (x := .int m') (y := .int ((26 : Nat) : Int)) rfl rfl).trans (gMod_nat _ (by decide)))).trans ey
theorem base_for (s0 s1 : Slot) : ∀ (ks : List Nat) (m : Int) (x : Str) (s4 : Slot), 0 ≤ m → m < 2147483647 → x.length + ks.length ≤ 100 →
    ∃ m' x' t4, x'.length = x.length + ks.length ∧ forL (gtName 4) b_law_base_1 (pl ks) [s0, s1, .sh (.int m), .sh (.str x), s4] = some (.nx [s0, s1, .sh (.int m'), .sh (.str x'), t4])
  | [], m, x, s4, _, _, _ => ⟨m, x, s4, rfl, rfl⟩
  | k :: ks, m, x, s4, h0, h1, h2 => by
    rw [List.length_cons] at h2
    obtain ⟨m1, x1, a1, a2, a3, a4⟩ := base_step s0 s1 h0 h1 (x := x) (by omega) k
    obtain ⟨m2, x2, t4, b1, b2⟩ := base_for s0 s1 ks m1 x1 (.sh (.int k)) a1 a2 (by omega)
    refine ⟨m2, x2, t4, by rw [b1, a3, List.length_cons]; omega, Eq.trans ?_ b2⟩
    exact forL_nx (i := 4) (x := .int k) (xs := pl ks) (ρ := [s0, s1, .sh (.int m), .sh (.str x), s4]) a4
theorem base_eq (c : Int) : ∃ x : Str, x.length = 20 ∧ F_law_base [.int c, .int 20] = some (.str x) := by
  have b1 := Int.emod_nonneg c (show (2147483647 : Int) ≠ 0 by decide)
  have b2 := Int.emod_lt_of_pos c (show (0 : Int) < 2147483647 by decide)
  have e1 : dBin gMod (dBin gAdd (dBin gMul (dBin gMod (dV 0) (dC (.int 2147483647))) (dC (.int 16807))) (dC (.int 11))) (dC (.int 2147483647)) [.sh (.int c), .sh (.int 20), .un, .un, .un] = some (.int ((c % 2147483647 * 16807 + 11) % 2147483647)) := by
    refine (dBin_eq (x := .int (c % 2147483647 * 16807 + 11)) (y := .int 2147483647) ?_ rfl).trans (gMod_pos _ (by decide))
    refine (dBin_eq (x := .int (c % 2147483647 * 16807)) (y := .int 11) ?_ rfl).trans rfl
    exact (dBin_eq (x := .int (c % 2147483647)) (y := .int 16807) ((dBin_eq (x := .int c) (y := .int 2147483647) rfl rfl).trans (gMod_pos _ (by decide))) rfl).trans (mul_small (by omega) (by omega))
  have b3 := Int.emod_nonneg (c % 2147483647 * 16807 + 11) (show (2147483647 : Int) ≠ 0 by decide)
  have b4 := Int.emod_lt_of_pos (c % 2147483647 * 16807 + 11) (show (0 : Int) < 2147483647 by decide)
  generalize (c % 2147483647 * 16807 + 11) % 2147483647 = m at e1 b3 b4
  obtain ⟨m', x', t4, h1, h2⟩ := base_for (.sh (.int c)) (.sh (.int 20)) (List.range 20) m "" .un b3 b4 (by decide)
  refine ⟨x', by rw [h1]; decide, fn_rt rfl ?_⟩
  refine (sSeq_nx (sSet_eq e1)).trans ((sSeq_nx (sSet_eq (p := .str "") rfl)).trans ?_)
  exact (sSeq_nx ((sFor_eq (nRng_nat (n := 20) rfl (by decide))).trans h2)).trans rfl
theorem name_eq {b : Str} {place size k : Nat} (h1 : place < b.length) (h2 : b.length ≤ 100) (h3 : k ≤ 1000) : ∃ y : Str, y.length ≤ 2 * b.length + 1 ∧ F_law_name [.str b, .int place, .int size, .int k] = some (.str y) := by
  obtain ⟨c, hc, ec⟩ := str_ix (x := b) (i := place) h1 (by omega)
  have b3 := mod_lt (Txt.find alph c + 3 * (k : Int)) (n := 26) (by decide)
  obtain ⟨y, hy, ey⟩ := alph_ix b3
  have c1 := cut_le b none (some (place : Int)) (st := 1) (by decide)
  have c2 := cut_le b (some ((place + 1 : Nat) : Int)) (some (size : Int)) (st := 1) (by decide)
  refine ⟨(cutS b none (some (place : Int)) 1 ++ y) ++ cutS b (some ((place + 1 : Nat) : Int)) (some (size : Int)) 1, by rw [app_len, app_len, hy]; omega, fn_rt rfl ?_⟩
  refine (sSeq_nx (sSet_eq (p := .str alph) rfl)).trans ((sSeq_nx (sSet_eq (p := .str y) ?_)).trans (sRet_eq ?_))
  · refine (dBin_eq (x := .str alph) rfl ((dBin_eq (x := .int (Txt.find alph c + 3 * (k : Int))) (y := .int ((26 : Nat) : Int)) ?_ rfl).trans (gMod_nat _ (by decide)))).trans ey
    refine (dBin_eq (x := .int (Txt.find alph c)) (y := .int (3 * (k : Int))) ?_ ((dBin_eq (x := .int 3) (y := .int k) rfl rfl).trans (mul_small (by decide) (by decide)))).trans rfl
    exact (dBin_eq (x := .str alph) rfl ((dBin_eq (x := .str b) (y := .int place) rfl rfl).trans ec)).trans rfl
  · refine (dBin_eq ((dBin_eq (y := .str y) (dSlA_str (y := b) rfl rfl rfl (by omega)) rfl).trans (gAdd_str _ _ (by omega))) (dSlA_str (y := b) (l := some ((place + 1 : Nat) : Int)) rfl rfl rfl (by omega))).trans (gAdd_str _ _ (by rw [app_len]; omega))
def wordsL : List PV := [.str "", .str "", .str "all", .str "", .str "any", .str "", .str "of", .str "al"]
theorem words_chk : ((List.range 8).all fun i => match itemAt wordsL (i : Int) with | some (.str w) => decide (w.length ≤ 3) | _ => false) = true := by decide +kernel
theorem words_ix {i : Nat} (h : i < 8) : ∃ w : Str, w.length ≤ 3 ∧ gIx (.lst wordsL) (.int i) = some (.str w) := by
  have := List.all_eq_true.mp words_chk i (List.mem_range.mpr h)
  show ∃ w : Str, w.length ≤ 3 ∧ itemAt wordsL (i : Int) = some (.str w)
  split at this
  · rename_i w e
    exact ⟨w, of_decide_eq_true this, e⟩
  · cases this
section
variable {F_law_cell_at F_law_name F_law_base : List PV → Option PV} (hC : ∀ (ns : List Int) (k : Nat), F_law_cell_at [scr ns, .int k] = some (.int (ns.getD k 0)))
  (hN : ∀ {b : Str} {place size k : Nat}, place < b.length → b.length ≤ 100 → k ≤ 1000 → ∃ y : Str, y.length ≤ 2 * b.length + 1 ∧ F_law_name [.str b, .int place, .int size, .int k] = some (.str y))
  (hB : ∀ c : Int, ∃ x : Str, x.length = 20 ∧ F_law_base [.int c, .int 20] = some (.str x))
include hC hN hB
theorem names_step (s0 s1 s2 s5 s6 : Slot) (cell : Int) {s : Nat} (hs0 : 0 < s) (hs : s ≤ 20) {b : Str} (hb : b.length = 20) (acc : List Str) (hacc : acc.length ≤ 1000) (k : Nat) (hk : k ≤ 1000) (s10 : Slot) :
    ∃ y : Str, y.length ≤ 50 ∧ b_law_names_1 F_law_cell_at F_law_name F_law_base [s0, s1, s2, .sh (.int cell), .sh (.int s), s5, s6, .sh (.str b), .ow (acc.map PV.str), .sh (.int k), s10] = some (.nx [s0, s1, s2, .sh (.int cell), .sh (.int s), s5, s6, .sh (.str b), .ow ((acc ++ [y]).map PV.str), .sh (.int k), .sh (.str y)]) := by
  have zl : (5000 : Nat) ≤ sizeLine := by decide
  have hp := mod_lt (cell / 80) (n := s) hs0
  obtain ⟨y1, l1, e1⟩ := hN (b := b) (place := (cell / 80 % (s : Int)).toNat) (size := s) (k := k) (by omega) (by omega) hk
  have st2 : ∃ y2 : Str, y2.length ≤ 50 ∧ (sIf (tV (dBin gEqF (dBin gMod (dBin gDiv (dV 3) (dC (.int 20))) (dC (.int 4))) (dC (.int 1)))) (sSet 10 (dSlA (dV 7) oNone (oSome (dBin gAdd (dV 9) (dC (.int 1)))))) sNext) [s0, s1, s2, .sh (.int cell), .sh (.int s), s5, s6, .sh (.str b), .ow (acc.map PV.str), .sh (.int k), .sh (.str y1)] = some (.nx [s0, s1, s2, .sh (.int cell), .sh (.int s), s5, s6, .sh (.str b), .ow (acc.map PV.str), .sh (.int k), .sh (.str y2)]) := by
    have t : tV (dBin gEqF (dBin gMod (dBin gDiv (dV 3) (dC (.int 20))) (dC (.int 4))) (dC (.int 1))) [s0, s1, s2, .sh (.int cell), .sh (.int s), s5, s6, .sh (.str b), .ow (acc.map PV.str), .sh (.int k), .sh (.str y1)] = some (decide (cell / 20 % 4 = 1)) := tV_eq rfl
    cases hd : decide (cell / 20 % 4 = 1)
    · rw [hd] at t
      exact ⟨y1, by omega, (sIf_f t).trans rfl⟩
    · rw [hd] at t
      have := cut_le b none (some ((k + 1 : Nat) : Int)) (st := 1) (by decide)
      refine ⟨cutS b none (some ((k + 1 : Nat) : Int)) 1, by omega, (sIf_t t).trans (sSet_eq ?_)⟩
      exact dSlA_str (y := b) (h := some ((k + 1 : Nat) : Int)) rfl rfl rfl (by omega)
  obtain ⟨y2, l2, e2⟩ := st2
  have st3 : ∃ y3 : Str, y3.length ≤ 50 ∧ (sIf (tV (dBin gIn (dV 10) (dTup (dCons (dC (.str "all")) (dCons (dC (.str "any")) (dCons (dC (.str "of")) dNil)))))) (sSet 10 (dUn gRev (dV 10))) sNext) [s0, s1, s2, .sh (.int cell), .sh (.int s), s5, s6, .sh (.str b), .ow (acc.map PV.str), .sh (.int k), .sh (.str y2)] = some (.nx [s0, s1, s2, .sh (.int cell), .sh (.int s), s5, s6, .sh (.str b), .ow (acc.map PV.str), .sh (.int k), .sh (.str y3)]) := by
    have tt : dTup (dCons (dC (.str "all")) (dCons (dC (.str "any")) (dCons (dC (.str "of")) dNil))) [s0, s1, s2, .sh (.int cell), .sh (.int s), s5, s6, .sh (.str b), .ow (acc.map PV.str), .sh (.int k), .sh (.str y2)] = some (.tup [.str "all", .str "any", .str "of"]) := by
      show (if (3 : Nat) ≤ sizeLine then some (PV.tup [.str "all", .str "any", .str "of"]) else none) = _
      rw [if_pos (by omega)]
    have t : tV (dBin gIn (dV 10) (dTup (dCons (dC (.str "all")) (dCons (dC (.str "any")) (dCons (dC (.str "of")) dNil))))) [s0, s1, s2, .sh (.int cell), .sh (.int s), s5, s6, .sh (.str b), .ow (acc.map PV.str), .sh (.int k), .sh (.str y2)] = some (inP (.str y2) [.str "all", .str "any", .str "of"]) := tV_eq ((dBin_eq (x := .str y2) rfl tt).trans rfl)
    cases hd : inP (.str y2) [.str "all", .str "any", .str "of"]
    · rw [hd] at t
      exact ⟨y2, l2, (sIf_f t).trans rfl⟩
    · rw [hd] at t
      have := cut_le y2 none none (st := -1) (by decide)
      refine ⟨cutS y2 none none (-1), by omega, (sIf_t t).trans (sSet_eq ?_)⟩
      show (if y2.length ≤ sizeLine then some (PV.str (cutS y2 none none (-1))) else none) = _
      rw [if_pos (by omega)]
  obtain ⟨y3, l3, e3⟩ := st3
  refine ⟨y3, l3, ?_⟩
  refine (sSeq_nx (sSet_eq ((dCall_eq (dCons_eq (x := .str b) rfl (dCons_eq ((dBin_eq (x := .int (cell / 80)) (y := .int s) rfl rfl).trans (gMod_nat _ hs0)) (dCons_eq (x := .int s) rfl (dCons_eq (x := .int k) rfl rfl))))).trans e1))).trans ?_
  refine (sSeq_nx e2).trans ((sSeq_nx e3).trans ?_)
  show ((if (acc.map PV.str).length < sizeLine then some (acc.map PV.str ++ [PV.str y3]) else none).map fun l' => Fl.nx [s0, s1, s2, .sh (.int cell), .sh (.int s), s5, s6, .sh (.str b), .ow l', .sh (.int k), .sh (.str y3)]) = _
  rw [if_pos (by rw [List.length_map]; omega), List.map_append]
  rfl
theorem names_for (s0 s1 s2 s5 s6 : Slot) (cell : Int) {s : Nat} (hs0 : 0 < s) (hs : s ≤ 20) {b : Str} (hb : b.length = 20) : ∀ (ks : List Nat) (acc : List Str) (s9 s10 : Slot), (∀ k ∈ ks, k ≤ 1000) → acc.length + ks.length ≤ 1000 → (∀ x ∈ acc, x.length ≤ 50) →
    ∃ (acc' : List Str) (t9 t10 : Slot), acc'.length = acc.length + ks.length ∧ (∀ x ∈ acc', x.length ≤ 50) ∧ forL (gtName 9) (b_law_names_1 F_law_cell_at F_law_name F_law_base) (pl ks) [s0, s1, s2, .sh (.int cell), .sh (.int s), s5, s6, .sh (.str b), .ow (acc.map PV.str), s9, s10] = some (.nx [s0, s1, s2, .sh (.int cell), .sh (.int s), s5, s6, .sh (.str b), .ow (acc'.map PV.str), t9, t10])
  | [], acc, s9, s10, _, _, h => ⟨acc, s9, s10, rfl, h, rfl⟩
  | k :: ks, acc, s9, s10, h1, h2, h3 => by
    rw [List.length_cons] at h2
    obtain ⟨y, ly, e⟩ := names_step hC hN hB s0 s1 s2 s5 s6 cell hs0 hs hb acc (by omega) k (h1 k (List.mem_cons_self ..)) s10
    obtain ⟨acc', t9, t10, q1, q2, q3⟩ := names_for s0 s1 s2 s5 s6 cell hs0 hs hb ks (acc ++ [y]) (.sh (.int k)) (.sh (.str y)) (fun x hx => h1 x (List.mem_cons_of_mem _ hx)) (by rw [List.length_append, List.length_singleton]; omega) (fun x hx => by
      rcases List.mem_append.mp hx with hx | hx
      · exact h3 x hx
      · obtain rfl := List.mem_singleton.mp hx
        exact ly)
    refine ⟨acc', t9, t10, by rw [q1, List.length_append, List.length_singleton, List.length_cons]; omega, q2, Eq.trans ?_ q3⟩
    exact forL_nx (i := 9) (x := .int k) (xs := pl ks) (ρ := [s0, s1, s2, .sh (.int cell), .sh (.int s), s5, s6, .sh (.str b), .ow (acc.map PV.str), s9, s10]) e
theorem names_gen (ns : List Int) (a many : Nat) (hm : many ≤ 1000) : ∃ xs : List Str, xs.length = many ∧ (∀ x ∈ xs, x.length ≤ 50) ∧ fn true 11 3 (g_law_names F_law_cell_at F_law_name F_law_base) [scr ns, .int a, .int many] = some (.lst (xs.map PV.str)) := by
  have zl : (5000 : Nat) ≤ sizeLine := by decide
  have hs := mod_lt (ns.getD a 0) (n := 20) (by decide)
  have hw := mod_lt (ns.getD (a + 1) 0) (n := 8) (by decide)
  obtain ⟨w, lw, ew⟩ := words_ix hw
  obtain ⟨x, lx, ex⟩ := hB (ns.getD (a + 1) 0 / 8)
  have lb : (cutS (w ++ x) none (some ((20 : Nat) : Int)) 1).length = 20 := cut_to (w ++ x) 20 (by rw [app_len]; omega)
  generalize eb : cutS (w ++ x) none (some ((20 : Nat) : Int)) 1 = b at lb
  obtain ⟨acc, t9, t10, q1, q2, q3⟩ := names_for hC hN hB (.sh (scr ns)) (.sh (.int a)) (.sh (.int many)) (.sh (.int (ns.getD (a + 1) 0))) (.sh (.str w)) (ns.getD a 0) (s := 1 + (ns.getD a 0 % ((20 : Nat) : Int)).toNat) (by omega) (by omega) lb (List.range many) [] .un .un (fun k hk => by have := List.mem_range.mp hk; omega) (by rw [List.length_range]; simpa using hm) (by simp)
  rw [List.length_range] at q1
  refine ⟨acc, by simpa using q1, q2, fn_rt rfl ?_⟩
  refine (sSeq_nx (sSet_eq ((dCall_eq (ps := [scr ns, .int a]) rfl).trans (hC ns a)))).trans ?_
  refine (sSeq_nx (sSet_eq (p := .int ((1 + (ns.getD a 0 % ((20 : Nat) : Int)).toNat : Nat) : Int)) ((dBin_eq (x := .int ((1 : Nat) : Int)) rfl ((dBin_eq (x := .int (ns.getD a 0)) (y := .int ((20 : Nat) : Int)) rfl rfl).trans (gMod_nat _ (by decide)))).trans rfl))).trans ?_
  refine (sSeq_nx (sSet_eq ((dCall_eq (ps := [scr ns, .int ((a + 1 : Nat) : Int)]) rfl).trans (hC ns (a + 1))))).trans ?_
  generalize ns.getD (a + 1) 0 = more at *
  generalize ns.getD a 0 = cell at *
  have ew' : dBin gIx (dLst (dCons (dC (.str "")) (dCons (dC (.str "")) (dCons (dC (.str "all")) (dCons (dC (.str "")) (dCons (dC (.str "any")) (dCons (dC (.str "")) (dCons (dC (.str "of")) (dCons (dC (.str "al")) dNil))))))))) (dBin gMod (dV 5) (dC (.int 8))) [.sh (scr ns), .sh (.int a), .sh (.int many), .sh (.int cell), .sh (.int ((1 + (cell % ((20 : Nat) : Int)).toNat : Nat) : Int)), .sh (.int more), .un, .un, .un, .un, .un] = some (.str w) := by
    refine (dBin_eq (x := .lst wordsL) ?_ ((dBin_eq (x := .int more) (y := .int ((8 : Nat) : Int)) rfl rfl).trans (gMod_nat _ (by decide)))).trans ew
    show (if (8 : Nat) ≤ sizeLine then some (PV.lst wordsL) else none) = _
    rw [if_pos (by omega)]
  refine (sSeq_nx (sSet_eq ew')).trans ?_
  refine (sSeq_nx (sSet_eq (p := .str b) ?_)).trans ?_
  · rw [← eb]
    refine dSlA_str (h := some ((20 : Nat) : Int)) ((dBin_eq (x := .str w) (y := .str x) rfl ?_).trans (gAdd_str _ _ (by omega))) rfl rfl (by rw [app_len]; omega)
    exact (dCall_eq (ps := [.int (more / 8), .int 20]) rfl).trans ex
  refine (sSeq_nx (sSetO_eq (l := []) rfl)).trans ?_
  exact (sSeq_nx ((sFor_eq (nRng_nat (n := many) rfl (by omega))).trans q3)).trans rfl
end
theorem names_eq (ns : List Int) (a many : Nat) (hm : many ≤ 1000) : ∃ xs : List Str, xs.length = many ∧ (∀ x ∈ xs, x.length ≤ 50) ∧ F_law_names [scr ns, .int a, .int many] = some (.lst (xs.map PV.str)) := names_gen cell_eq name_eq base_eq ns a many hm
end L2.D.My
set_option Elab.async false
set_option linter.all false
set_option maxRecDepth 100000
set_option maxHeartbeats 2000000
namespace L2.D.My
open PySem
abbrev sepC : Str := ", "
abbrev clB : Str := ")"
def Jn (its : List It) : Str := Txt.join sepC (its.map It.t)
theorem sum_wt (its : List It) : ((its.map It.t).map fun t => t.length + sepC.length).sum = wt its := by
  unfold wt
  rw [List.map_map]
  rfl
theorem Jn_le (its : List It) : (Jn its).length ≤ wt its := by
  have := join_le sepC (its.map It.t)
  rw [sum_wt] at this
  exact this
structure OkB (names : List Str) (Ok : It → Prop) : Prop where
  hand : ∀ x ∈ names, Ok ⟨.ins 0 [.str x], .tup [.str "hand", .str x], x, 0⟩
  all : ∀ (its : List It) (n : Nat), its ≠ [] → its.length ≤ 8 → wt its ≤ 50000 → (∀ i ∈ its, Ok i ∧ i.d ≤ n) → Ok ⟨.ins 1 [.int (its.length : Nat), .tup (its.map It.o)], .tup [.str "all", .tup (its.map It.s)], ("all(" : Str) ++ (Jn its ++ clB), 1 + n⟩
  any : ∀ (its : List It) (n : Nat), its ≠ [] → its.length ≤ 8 → wt its ≤ 50000 → (∀ i ∈ its, Ok i ∧ i.d ≤ n) → Ok ⟨.ins 2 [.int 1, .tup (its.map It.o)], .tup [.str "any", .tup (its.map It.s)], ("any(" : Str) ++ (Jn its ++ clB), 1 + n⟩
  some : ∀ (its : List It) (n m : Nat), its ≠ [] → its.length ≤ 8 → wt its ≤ 50000 → (∀ i ∈ its, Ok i ∧ i.d ≤ n) → 1 ≤ m → m ≤ its.length → Ok ⟨.ins 3 [.int (m : Nat), .tup (its.map It.o)], .tup [.str "some", .int (m : Nat), .tup (its.map It.s)], ((toString (m : Int) : Str) ++ (" of (" : Str)) ++ (Jn its ++ clB), 1 + n⟩
theorem str_chk : ((List.range 9).all fun m => decide ((toString (m : Int) : Str).length ≤ 1)) = true := by decide +kernel
theorem str_le {m : Nat} (h : m ≤ 8) : (toString (m : Int) : Str).length ≤ 1 := of_decide_eq_true (List.all_eq_true.mp str_chk m (List.mem_range.mpr (by omega)))
theorem ix_it (i : It) (s : List Slot) (k : Nat) (p : PV) (h : [i.o, i.s, .str i.t, .int (i.d : Nat)][k]? = some p) : dBin gIx (dV 0) (dC (.int (k : Nat))) (.sh i.p :: s) = some p := by
  have hk : k < 4 := (List.getElem?_eq_some_iff.mp h).1
  show itemAt [i.o, i.s, .str i.t, .int (i.d : Nat)] (k : Int) = some p
  unfold itemAt ixP
  rw [if_pos (by omega), if_pos (by show (k : Int) < ((4 : Nat) : Int); omega)]
  show [i.o, i.s, .str i.t, .int (i.d : Nat)][(k : Int).toNat]? = _
  rw [Int.toNat_natCast]
  exact h
theorem counted_eq {names : List Str} {Ok : It → Prop} (B : OkB names Ok) {kind m : Nat} (hk : kind < 3) {its : List It} (h0 : its ≠ []) (h8 : its.length ≤ 8) (hw : wt its ≤ 50000) (hm1 : 1 ≤ m) (hm2 : m ≤ its.length) (ho : ∀ i ∈ its, Ok i) :
    ∃ r : It, Ok r ∧ (∃ i ∈ its, r.d = 1 + i.d) ∧ r.t.length + 2 ≤ wt its + 10 ∧ F_law_counted [.int kind, .int m, .lst (its.map It.p)] = some r.p := by
  have zl : (100000 : Nat) ≤ sizeLine := by decide
  obtain ⟨M, eM, leM, inM⟩ := gMax_nat (its.map It.d) (by simpa using h0)
  obtain ⟨iM, hiM, eiM⟩ := List.mem_map.mp inM
  have hn : ∀ i ∈ its, Ok i ∧ i.d ≤ M := fun i hi => ⟨ho i hi, leM _ (List.mem_map.mpr ⟨i, hi, rfl⟩)⟩
  have lJ := Jn_le its
  have l1 := str_le (m := m) (by omega)
  have c0 : ∀ s3 s4 s5 s6 s7, dComp (nList (dV 2)) tTrue (dBin gIx (dV 0) (dC (.int 0))) [.sh (.int kind), .sh (.int m), .sh (.lst (its.map It.p)), s3, s4, s5, s6, s7] = some (.lst (its.map It.o)) := fun s3 s4 s5 s6 s7 => dComp_of It.p It.o rfl (by omega) fun i _ => ix_it i _ 0 _ rfl
  have c1 : ∀ s3 s4 s5 s6 s7, dComp (nList (dV 2)) tTrue (dBin gIx (dV 0) (dC (.int 1))) [.sh (.int kind), .sh (.int m), .sh (.lst (its.map It.p)), s3, s4, s5, s6, s7] = some (.lst (its.map It.s)) := fun s3 s4 s5 s6 s7 => dComp_of It.p It.s rfl (by omega) fun i _ => ix_it i _ 1 _ rfl
  have c2 : ∀ s3 s4 s5 s6 s7, dComp (nList (dV 2)) tTrue (dBin gIx (dV 0) (dC (.int 2))) [.sh (.int kind), .sh (.int m), .sh (.lst (its.map It.p)), s3, s4, s5, s6, s7] = some (.lst (its.map fun i => .str i.t)) := fun s3 s4 s5 s6 s7 => dComp_of It.p (fun i => .str i.t) rfl (by omega) fun i _ => ix_it i _ 2 _ rfl
  have c3 : ∀ s3 s4 s5 s6 s7, dComp (nList (dV 2)) tTrue (dBin gIx (dV 0) (dC (.int 3))) [.sh (.int kind), .sh (.int m), .sh (.lst (its.map It.p)), s3, s4, s5, s6, s7] = some (.lst (its.map fun i => .int (i.d : Nat))) := fun s3 s4 s5 s6 s7 => dComp_of It.p (fun i => .int (i.d : Nat)) rfl (by omega) fun i _ => ix_it i _ 3 _ rfl
  have hJ : gJoin (.str sepC) (.lst (its.map fun i => .str i.t)) = some (.str (Jn its)) := by
    have := gJoin_str sepC (its.map It.t) (by rw [sum_wt]; omega)
    rw [List.map_map] at this
    exact this
  have hMx : gMaxL (.lst (its.map fun i => .int (i.d : Nat))) = some (.int (M : Nat)) := by
    have e : pints (its.map It.d) = .lst (its.map fun i => .int (i.d : Nat)) := by
      unfold pints
      rw [List.map_map]
      rfl
    rw [← e]
    exact eM
  have fin : ∀ (r : It), Ok r → r.d = 1 + M → r.t.length + 2 ≤ wt its + 10 → (sIf (tV (dBin gEqF (dV 0) (dC (.int 0)))) (sSet 7 (dTup (dCons (dUn gAllO (dV 3)) (dCons (dTup (dCons (dC (.str "all")) (dCons (dVS 4) dNil))) (dCons (dBin gAdd (dC (.str "all(")) (dV 5)) (dCons (dVS 6) dNil)))))) (sIf (tV (dBin gEqF (dV 0) (dC (.int 1)))) (sSet 7 (dTup (dCons (dUn gAnyO (dV 3)) (dCons (dTup (dCons (dC (.str "any")) (dCons (dVS 4) dNil))) (dCons (dBin gAdd (dC (.str "any(")) (dV 5)) (dCons (dVS 6) dNil)))))) (sSet 7 (dTup (dCons (dBin gSomeO (dV 1) (dV 3)) (dCons (dTup (dCons (dC (.str "some")) (dCons (dVS 1) (dCons (dVS 4) dNil)))) (dCons (dBin gAdd (dBin gAdd (dUn gStr (dV 1)) (dC (.str " of ("))) (dV 5)) (dCons (dVS 6) dNil))))))))
      [.sh (.int kind), .sh (.int m), .sh (.lst (its.map It.p)), .ow (its.map It.o), .sh (.tup (its.map It.s)), .sh (.str (Jn its ++ clB)), .sh (.int ((1 + M : Nat) : Int)), .un] = some (.nx [.sh (.int kind), .sh (.int m), .sh (.lst (its.map It.p)), .ow (its.map It.o), .sh (.tup (its.map It.s)), .sh (.str (Jn its ++ clB)), .sh (.int ((1 + M : Nat) : Int)), .sh r.p]) →
      ∃ r : It, Ok r ∧ (∃ i ∈ its, r.d = 1 + i.d) ∧ r.t.length + 2 ≤ wt its + 10 ∧ F_law_counted [.int kind, .int m, .lst (its.map It.p)] = some r.p := fun r h1 h2 h3 h4 => by
    refine ⟨r, h1, ⟨iM, hiM, by rw [h2, eiM]⟩, h3, fn_rt rfl ?_⟩
    refine (sSeq_nx (sSetO_eq (c0 _ _ _ _ _))).trans ?_
    refine (sSeq_nx (sSet_eq (p := .tup (its.map It.s)) ((dUn_eq (c1 _ _ _ _ _)).trans rfl))).trans ?_
    refine (sSeq_nx (sSet_eq (p := .str (Jn its ++ clB)) ((dBin_eq (y := .str clB) ((dBin_eq (x := .str sepC) rfl (c2 _ _ _ _ _)).trans hJ) rfl).trans (gAdd_str _ _ (by have : clB.length = 1 := rfl; omega))))).trans ?_
    refine (sSeq_nx (sSet_eq (p := .int ((1 + M : Nat) : Int)) ((dBin_eq (x := .int ((1 : Nat) : Int)) rfl ((dUn_eq (c3 _ _ _ _ _)).trans hMx)).trans rfl))).trans ?_
    refine (sSeq_nx h4).trans ?_
    exact (sSeq_nx (ρ' := [.sh (.int kind), .sh (.int m), .sh (.lst (its.map It.p)), .ow [], .sh (.tup (its.map It.s)), .sh (.str (Jn its ++ clB)), .sh (.int ((1 + M : Nat) : Int)), .sh r.p]) rfl).trans rfl
  have T : ∀ (k : Nat) s7, tV (dBin gEqF (dV 0) (dC (.int k))) [.sh (.int kind), .sh (.int m), .sh (.lst (its.map It.p)), .ow (its.map It.o), .sh (.tup (its.map It.s)), .sh (.str (Jn its ++ clB)), .sh (.int ((1 + M : Nat) : Int)), s7] = some (decide (kind = k)) := fun k s7 => tV_eq ((dBin_eq (x := .int kind) (y := .int k) rfl rfl).trans (gEqF_nat _ _))
  have lB : (Jn its ++ clB).length = (Jn its).length + 1 := by rw [app_len]; rfl
  have lA : ("all(" : Str).length = 4 := by decide +kernel
  have lY : ("any(" : Str).length = 4 := by decide +kernel
  have lS : (" of (" : Str).length = 5 := by decide +kernel
  by_cases k0 : kind = 0
  · refine fin ⟨.ins 1 [.int (its.length : Nat), .tup (its.map It.o)], .tup [.str "all", .tup (its.map It.s)], ("all(" : Str) ++ (Jn its ++ clB), 1 + M⟩ (B.all its M h0 h8 hw hn) rfl (by show (("all(" : Str) ++ (Jn its ++ clB)).length + 2 ≤ _; rw [app_len, lB, lA]; omega) ((sIf_t ((T 0 _).trans (by rw [decide_eq_true k0]))).trans (sSet_eq ?_))
    refine dTup_eq (dCons_eq (x := .ins 1 [.int (its.length : Nat), .tup (its.map It.o)]) ?_ (dCons_eq (x := .tup [.str "all", .tup (its.map It.s)]) (dTup_eq (xs := [.str "all", .tup (its.map It.s)]) rfl (by simp)) (dCons_eq ((dBin_eq (x := .str "all(") (y := .str (Jn its ++ clB)) rfl rfl).trans (gAdd_str _ _ (by rw [lB, lA]; omega))) (dCons_eq (x := .int ((1 + M : Nat) : Int)) rfl rfl)))) (by simp)
    show some (PV.ins 1 [.int ((its.map It.o).length : Nat), .tup (its.map It.o)]) = _
    rw [List.length_map]
  · by_cases k1 : kind = 1
    · refine fin ⟨.ins 2 [.int 1, .tup (its.map It.o)], .tup [.str "any", .tup (its.map It.s)], ("any(" : Str) ++ (Jn its ++ clB), 1 + M⟩ (B.any its M h0 h8 hw hn) rfl (by show (("any(" : Str) ++ (Jn its ++ clB)).length + 2 ≤ _; rw [app_len, lB, lY]; omega) ((sIf_f ((T 0 _).trans (by rw [decide_eq_false k0]))).trans ((sIf_t ((T 1 _).trans (by rw [decide_eq_true k1]))).trans (sSet_eq ?_)))
      exact dTup_eq (dCons_eq (x := .ins 2 [.int 1, .tup (its.map It.o)]) rfl (dCons_eq (x := .tup [.str "any", .tup (its.map It.s)]) (dTup_eq (xs := [.str "any", .tup (its.map It.s)]) rfl (by simp)) (dCons_eq ((dBin_eq (x := .str "any(") (y := .str (Jn its ++ clB)) rfl rfl).trans (gAdd_str _ _ (by rw [lB, lY]; omega))) (dCons_eq (x := .int ((1 + M : Nat) : Int)) rfl rfl)))) (by simp)
    · have hst : gStr (.int (m : Nat)) = some (.str (toString (m : Int))) := by
        show (if decide ((m : Int).natAbs < 1000000) then some (PV.str (toString (m : Int))) else none) = _
        rw [if_pos (decide_eq_true (by omega))]
      refine fin ⟨.ins 3 [.int (m : Nat), .tup (its.map It.o)], .tup [.str "some", .int (m : Nat), .tup (its.map It.s)], ((toString (m : Int) : Str) ++ (" of (" : Str)) ++ (Jn its ++ clB), 1 + M⟩ (B.some its M m h0 h8 hw hn hm1 hm2) rfl (by show (((toString (m : Int) : Str) ++ (" of (" : Str)) ++ (Jn its ++ clB)).length + 2 ≤ _; rw [app_len, app_len, lB, lS]; omega) ((sIf_f ((T 0 _).trans (by rw [decide_eq_false k0]))).trans ((sIf_f ((T 1 _).trans (by rw [decide_eq_false k1]))).trans (sSet_eq ?_)))
      refine dTup_eq (dCons_eq (x := .ins 3 [.int (m : Nat), .tup (its.map It.o)]) rfl (dCons_eq (x := .tup [.str "some", .int (m : Nat), .tup (its.map It.s)]) (dTup_eq (xs := [.str "some", .int (m : Nat), .tup (its.map It.s)]) rfl (by simp)) (dCons_eq ((dBin_eq (y := .str (Jn its ++ clB)) ((dBin_eq (x := .str (toString (m : Int))) (y := .str " of (") ((dUn_eq (x := .int (m : Nat)) rfl).trans hst) rfl).trans (gAdd_str _ _ (by rw [lS]; omega))) rfl).trans (gAdd_str _ _ (by rw [app_len, lB, lS]; omega))) (dCons_eq (x := .int ((1 + M : Nat) : Int)) rfl rfl)))) (by simp)
theorem wt_len : ∀ P : List It, P.length * 2 ≤ wt P
  | [] => Nat.zero_le _
  | i :: P => by
    have := wt_len P
    rw [wt_cons, List.length_cons]
    omega
theorem ends (P : List It) (j : Nat) : P.take (P.length - j) ++ P.drop (P.length - j) = P := List.take_append_drop ..
section
variable {Ok : It → Prop} {F_law_counted : List PV → Option PV}
  (hF : ∀ {kind m : Nat}, kind < 3 → ∀ {its : List It}, its ≠ [] → its.length ≤ 8 → wt its ≤ 50000 → 1 ≤ m → m ≤ its.length → (∀ i ∈ its, Ok i) → ∃ r : It, Ok r ∧ (∃ i ∈ its, r.d = 1 + i.d) ∧ r.t.length + 2 ≤ wt its + 10 ∧ F_law_counted [.int kind, .int m, .lst (its.map It.p)] = some r.p)
include hF
theorem fold_step {P : List It} (h2 : 2 ≤ P.length) (hP : ∀ i ∈ P, Ok i) {D W : Nat} (hd : ∀ i ∈ P, i.d ≤ D) (hw : wt P ≤ W) (hW : W ≤ 49000) {s0 : Slot} (hs : s0 = .sh (.lst (P.map It.p)) ∨ s0 = .ow (P.map It.p)) (s1 : Slot) {n : Int} (hn0 : 0 ≤ n) (hn1 : n < 2147483647) (s3 : Slot) :
    ∃ (Q : List It) (n' : Int) (t3 : Slot), Q.length + 1 = P.length - min 8 P.length + 2 ∧ (∀ i ∈ Q, Ok i) ∧ (∀ i ∈ Q, i.d ≤ D + 1) ∧ wt Q ≤ W + 10 ∧ 0 ≤ n' ∧ n' < 2147483647 ∧ b_law_folded_1 F_law_counted [s0, s1, .sh (.int n), s3] = some (.nx [.ow (Q.map It.p), s1, .sh (.int n'), t3]) := by
  have zl : (100000 : Nat) ≤ sizeLine := by decide
  have v0 : ∀ r1 r2 r3, dV 0 [s0, r1, r2, r3] = some (.lst (P.map It.p)) := fun r1 r2 r3 => by
    rcases hs with rfl | rfl <;> rfl
  have e1 : dBin gMod (dBin gAdd (dBin gMul (dV 2) (dV 2)) (dBin gMul (dC (.int 48271)) (dV 2))) (dC (.int 2147483647)) [s0, s1, .sh (.int n), s3] = some (.int ((n * n + 48271 * n) % 2147483647)) :=
    (dBin_eq (x := .int (n * n + 48271 * n)) (y := .int 2147483647) ((dBin_eq ((dBin_eq (x := .int n) (y := .int n) rfl rfl).trans (mul_small (by omega) (by omega))) ((dBin_eq (x := .int 48271) (y := .int n) rfl rfl).trans (mul_small (by omega) (by omega)))).trans rfl) rfl).trans (gMod_pos _ (by decide))
  have b1 := Int.emod_nonneg (n * n + 48271 * n) (show (2147483647 : Int) ≠ 0 by decide)
  have b2 := Int.emod_lt_of_pos (n * n + 48271 * n) (show (0 : Int) < 2147483647 by decide)
  generalize (n * n + 48271 * n) % 2147483647 = n' at e1 b1 b2
  have es := ends P 8
  generalize eA : P.take (P.length - 8) = Pa at es
  generalize eB : P.drop (P.length - 8) = Pb at es
  have lb : Pb.length = min 8 P.length := by rw [← eB, List.length_drop]; omega
  have la : Pa.length = P.length - 8 := by rw [← eA, List.length_take]; omega
  have mb : ∀ i ∈ Pb, i ∈ P := fun i hi => by rw [← es]; exact List.mem_append_right _ hi
  have ma : ∀ i ∈ Pa, i ∈ P := fun i hi => by rw [← es]; exact List.mem_append_left _ hi
  have hwt : wt Pa + wt Pb = wt P := by rw [← wt_app, es]
  have hk := mod_lt n' (n := 3) (by decide)
  have hm := mod_lt (n' / 3) (n := Pb.length) (by omega)
  obtain ⟨r, r1, ⟨i, hi, r2⟩, r3, r4⟩ := hF (kind := (n' % ((3 : Nat) : Int)).toNat) (m := 1 + (n' / 3 % (Pb.length : Int)).toNat) hk (its := Pb) (fun z => by rw [z] at lb; simp at lb; omega) (by omega) (by omega) (by omega) (by omega) fun i hi => hP i (mb i hi)
  refine ⟨Pa ++ [r], n', .sh (.lst (Pb.map It.p)), by rw [List.length_append, List.length_singleton]; omega, fun x hx => ?_, fun x hx => ?_, by rw [wt_app, wt_one]; omega, b1, b2, ?_⟩
  · rcases List.mem_append.mp hx with hx | hx
    · exact hP x (ma x hx)
    · obtain rfl := List.mem_singleton.mp hx
      exact r1
  · rcases List.mem_append.mp hx with hx | hx
    · have := hd x (ma x hx)
      omega
    · obtain rfl := List.mem_singleton.mp hx
      have := hd i (mb i hi)
      omega
  · refine (sSeq_nx (sSet_eq e1)).trans ?_
    have e3 : dSl (dV 0) (oSome (dUn gNeg (dC (.int 8)))) oNone [s0, s1, .sh (.int n'), s3] = some (.lst (Pb.map It.p)) := by
      refine (dSl_eq (a := some (-((8 : Nat) : Int))) (v0 _ _ _) rfl rfl).trans ?_
      rw [cut_last _ 8 (by decide), List.length_map, ← List.map_drop, eB]
    refine (sSeq_nx (sSet_eq e3)).trans ?_
    have e4 : dSl (dV 0) oNone (oSome (dUn gNeg (dC (.int 8)))) [s0, s1, .sh (.int n'), .sh (.lst (Pb.map It.p))] = some (.lst (Pa.map It.p)) := by
      refine (dSl_eq (b := some (-((8 : Nat) : Int))) (v0 _ _ _) rfl rfl).trans ?_
      rw [cut_but _ 8 (by decide), List.length_map, ← List.map_take, eA]
    refine (sSeq_nx (sSetO_eq e4)).trans ?_
    have e5 : dCall F_law_counted (dCons (dBin gMod (dV 2) (dC (.int 3))) (dCons (dBin gAdd (dC (.int 1)) (dBin gMod (dBin gDiv (dV 2) (dC (.int 3))) (dUn gLen (dV 3)))) (dCons (dVS 3) dNil))) [.ow (Pa.map It.p), s1, .sh (.int n'), .sh (.lst (Pb.map It.p))] = some r.p := by
      refine (dCall_eq (dCons_eq ((dBin_eq (x := .int n') (y := .int ((3 : Nat) : Int)) rfl rfl).trans (gMod_nat _ (by decide))) (dCons_eq (x := .int ((1 + (n' / 3 % (Pb.length : Int)).toNat : Nat) : Int)) ?_ (dCons_eq (x := .lst (Pb.map It.p)) rfl rfl)))).trans r4
      refine (dBin_eq (x := .int ((1 : Nat) : Int)) rfl ((dBin_eq (x := .int (n' / 3)) (y := .int (Pb.length : Nat)) rfl ?_).trans (gMod_nat _ (by omega)))).trans rfl
      show some (PV.int ((Pb.map It.p).length : Nat)) = _
      rw [List.length_map]
    show ((dCons (dCall F_law_counted (dCons (dBin gMod (dV 2) (dC (.int 3))) (dCons (dBin gAdd (dC (.int 1)) (dBin gMod (dBin gDiv (dV 2) (dC (.int 3))) (dUn gLen (dV 3)))) (dCons (dVS 3) dNil)))) dNil) [.ow (Pa.map It.p), s1, .sh (.int n'), .sh (.lst (Pb.map It.p))]).bind _ = _
    rw [dCons_eq e5 rfl]
    show ((if (Pa.map It.p).length < sizeLine then some (Pa.map It.p ++ [r.p]) else none).map fun l' => Fl.nx [.ow l', s1, .sh (.int n'), .sh (.lst (Pb.map It.p))]) = _
    have wl := wt_len P
    rw [if_pos (by rw [List.length_map]; omega), List.map_append]
    rfl
theorem fold_loop (s1 : Slot) : ∀ (k : Nat) {P : List It} (h1 : 1 ≤ P.length) (hk : P.length ≤ 1 + 7 * k) (hP : ∀ i ∈ P, Ok i) {D W : Nat} (hd : ∀ i ∈ P, i.d ≤ D) (hw : wt P ≤ W) (hW : W + 10 * k ≤ 49000) {s0 : Slot} (hs : s0 = .sh (.lst (P.map It.p)) ∨ s0 = .ow (P.map It.p)) {n : Int} (hn0 : 0 ≤ n) (hn1 : n < 2147483647) (s3 : Slot) (f : Nat) (hf : k < f),
    ∃ (r : It) (t0 t2 t3 : Slot), (t0 = .sh (.lst [r.p]) ∨ t0 = .ow [r.p]) ∧ Ok r ∧ (r.d ≤ D + k ∧ r.t.length + 2 ≤ W + 10 * k) ∧ whileN (tV (dBin gGt (dUn gLen (dV 0)) (dC (.int 1)))) (b_law_folded_1 F_law_counted) f [s0, s1, .sh (.int n), s3] = some (.nx [t0, s1, t2, t3])
  | k, P, h1, hk, hP, D, W, hd, hw, hW, s0, hs, n, hn0, hn1, s3, 0, hf => by omega
  | k, P, h1, hk, hP, D, W, hd, hw, hW, s0, hs, n, hn0, hn1, s3, f + 1, hf => by
    have v0 : ∀ r1 r2 r3, dV 0 [s0, r1, r2, r3] = some (.lst (P.map It.p)) := fun r1 r2 r3 => by
      rcases hs with rfl | rfl <;> rfl
    have t : tV (dBin gGt (dUn gLen (dV 0)) (dC (.int 1))) [s0, s1, .sh (.int n), s3] = some (decide (1 < P.length)) := by
      refine tV_eq ((dBin_eq (x := .int (P.length : Nat)) (y := .int 1) ((dUn_eq (v0 _ _ _)).trans ?_) rfl).trans ?_)
      · show some (PV.int ((P.map It.p).length : Nat)) = _
        rw [List.length_map]
      · show some (PV.bl (decide ((1 : Int) < (P.length : Int)))) = _
        congr 2
        rw [decide_eq_decide]
        omega
    by_cases h2 : 1 < P.length
    · rw [decide_eq_true h2] at t
      match k, hk with
      | 0, hk => omega
      | k + 1, hk =>
        obtain ⟨Q, n', t3, q1, q2, q3, q4, q5, q6, q7⟩ := fold_step hF (P := P) (by omega) hP hd hw (by omega) hs s1 hn0 hn1 s3
        obtain ⟨r, t0, t2, t3', a1, a2, a3, a4⟩ := fold_loop s1 k (P := Q) (by omega) (by omega) q2 (D := D + 1) (W := W + 10) q3 q4 (by omega) (s0 := .ow (Q.map It.p)) (.inr rfl) q5 q6 t3 f (by omega)
        exact ⟨r, t0, t2, t3', a1, a2, ⟨by omega, by omega⟩, (whileN_t t q7).trans a4⟩
    · rw [decide_eq_false h2] at t
      obtain ⟨r, rfl⟩ : ∃ r, P = [r] := List.length_eq_one_iff.mp (by omega)
      exact ⟨r, s0, .sh (.int n), s3, hs, hP r (List.mem_cons_self ..), ⟨by have := hd r (List.mem_cons_self ..); omega, by rw [wt_one] at hw; omega⟩, whileN_f t⟩
theorem folded_gen {P : List It} (h1 : 1 ≤ P.length) (h57 : P.length ≤ 57) (hP : ∀ i ∈ P, Ok i) {D : Nat} (hd : ∀ i ∈ P, i.d ≤ D) (hw : wt P ≤ 10000) (c : Int) : ∃ r : It, Ok r ∧ (r.d ≤ D + 8 ∧ r.t.length ≤ 11000) ∧ fn false 4 2 (g_law_folded F_law_counted) [.lst (P.map It.p), .int c] = some r.p := by
  have b1 := Int.emod_nonneg c (show (2147483646 : Int) ≠ 0 by decide)
  have b2 := Int.emod_lt_of_pos c (show (0 : Int) < 2147483646 by decide)
  obtain ⟨r, t0, t2, t3, a1, a2, a3, a4⟩ := fold_loop hF (.sh (.int c)) 8 (P := P) h1 (by omega) hP hd hw (by omega) (s0 := .sh (.lst (P.map It.p))) (.inl rfl) (n := 1 + c % 2147483646) (by omega) (by omega) .un 1000 (by decide)
  refine ⟨r, a2, ⟨by omega, by omega⟩, fn_rt rfl ?_⟩
  refine (sSeq_nx (sSet_eq (p := .int (1 + c % 2147483646)) ((dBin_eq (x := .int 1) rfl ((dBin_eq (x := .int c) (y := .int 2147483646) rfl rfl).trans (gMod_pos _ (by decide)))).trans rfl))).trans ?_
  refine (sSeq_nx a4).trans (sRet_eq ?_)
  rcases a1 with rfl | rfl <;> rfl
end
theorem hand_eq (x : Str) : F_law_hand [.str x] = some (It.p ⟨.ins 0 [.str x], .tup [.str "hand", .str x], x, 0⟩) := by
  refine fn_ret rfl ?_
  exact dTup_eq (dCons_eq (x := .ins 0 [.str x]) rfl (dCons_eq (x := .tup [.str "hand", .str x]) (dTup_eq (xs := [.str "hand", .str x]) rfl (by simp)) (dCons_eq (x := .str x) rfl (dCons_eq (x := .int ((0 : Nat) : Int)) rfl rfl)))) (by simp)
structure Pile (Ok : It → Prop) (k : Nat) (P : List It) : Prop where
  pos : 1 ≤ P.length
  len : P.length ≤ 1 + k
  ok : ∀ i ∈ P, Ok i
  dp : ∀ i ∈ P, i.d ≤ 12
  wt : wt P ≤ 60 * (1 + k)
section
variable {names : List Str} {Ok : It → Prop} (B : OkB names Ok) (hn : ∀ x ∈ names, x.length ≤ 50) {F_law_folded F_law_hand F_law_cell_at F_law_counted : List PV → Option PV}
  (hH : ∀ x : Str, F_law_hand [.str x] = some (It.p ⟨.ins 0 [.str x], .tup [.str "hand", .str x], x, 0⟩))
  (hF : ∀ {kind m : Nat}, kind < 3 → ∀ {its : List It}, its ≠ [] → its.length ≤ 8 → wt its ≤ 50000 → 1 ≤ m → m ≤ its.length → (∀ i ∈ its, Ok i) → ∃ r : It, Ok r ∧ (∃ i ∈ its, r.d = 1 + i.d) ∧ r.t.length + 2 ≤ wt its + 10 ∧ F_law_counted [.int kind, .int m, .lst (its.map It.p)] = some r.p)
include B hn hH
theorem roll_ix (h0 : names ≠ []) (c : Int) {A L : Den} {ρ : Sto} (hA : A ρ = some (.tup (names.map PV.str))) (hL : L ρ = some (.int c)) : ∃ x ∈ names, dBin gIx A (dBin gMod L (dUn gLen A)) ρ = some (.str x) := by
  have hl : 0 < names.length := List.length_pos_iff.mpr h0
  have hi := mod_lt c hl
  refine ⟨names[(c % (names.length : Int)).toNat], List.getElem_mem hi, ?_⟩
  refine (dBin_eq hA ((dBin_eq hL ((dUn_eq hA).trans ?_)).trans (gMod_nat c hl))).trans ?_
  · show some (PV.int ((names.map PV.str).length : Nat)) = _
    rw [List.length_map]
  · show itemAt (names.map PV.str) (((c % (names.length : Int)).toNat : Nat) : Int) = _
    unfold itemAt ixP
    rw [if_pos (by omega), if_pos (by rw [List.length_map]; omega)]
    show (names.map PV.str)[(((c % (names.length : Int)).toNat : Nat) : Int).toNat]? = _
    rw [Int.toNat_natCast, List.getElem?_map, List.getElem?_eq_getElem hi]
    rfl
include hF
theorem built_step (h0 : names ≠ []) (s0 s1 s2 : Slot) (cell : Int) {k : Nat} (hk : k ≤ 100) {P : List It} (hP : Pile Ok k P) (heads : Nat) (s7 s8 : Slot) :
    ∃ (Q : List It) (heads' : Nat) (t7 t8 : Slot), Pile Ok (k + 1) Q ∧ b_law_built_1 F_law_folded F_law_hand F_law_cell_at F_law_counted [s0, s1, s2, .sh (.tup (names.map PV.str)), .ow (P.map It.p), .sh (.int (heads : Nat)), .sh (.int cell), s7, s8] = some (.nx [s0, s1, s2, .sh (.tup (names.map PV.str)), .ow (Q.map It.p), .sh (.int (heads' : Nat)), .sh (.int cell), t7, t8]) := by
  have zl : (100000 : Nat) ≤ sizeLine := by decide
  obtain ⟨p1, p2, p3, p4, p5⟩ := hP
  have hj := mod_lt (cell / 9) (n := 8) (by decide)
  generalize ej : 1 + (cell / 9 % ((8 : Nat) : Int)).toNat = j at *
  have es := ends P j
  generalize eA : P.take (P.length - j) = Pa at es
  generalize eB : P.drop (P.length - j) = Pb at es
  have lb : Pb.length = min j P.length := by rw [← eB, List.length_drop]; omega
  have la : Pa.length = P.length - j := by rw [← eA, List.length_take]; omega
  have mb : ∀ i ∈ Pb, i ∈ P := fun i hi => by rw [← es]; exact List.mem_append_right _ hi
  have ma : ∀ i ∈ Pa, i ∈ P := fun i hi => by rw [← es]; exact List.mem_append_left _ hi
  have hwt : L2.D.wt Pa + L2.D.wt Pb = L2.D.wt P := by rw [← wt_app, es]
  have e1 : dSl (dV 4) (oSome (dUn gNeg (dBin gAdd (dC (.int 1)) (dBin gMod (dBin gDiv (dV 6) (dC (.int 9))) (dC (.int 8)))))) oNone [s0, s1, s2, .sh (.tup (names.map PV.str)), .ow (P.map It.p), .sh (.int (heads : Nat)), .sh (.int cell), s7, s8] = some (.lst (Pb.map It.p)) := by
    have eo : (oSome (dUn gNeg (dBin gAdd (dC (.int 1)) (dBin gMod (dBin gDiv (dV 6) (dC (.int 9))) (dC (.int 8)))))) [s0, s1, s2, .sh (.tup (names.map PV.str)), .ow (P.map It.p), .sh (.int (heads : Nat)), .sh (.int cell), s7, s8] = some (some (-(j : Int))) := by
      have : dUn gNeg (dBin gAdd (dC (.int 1)) (dBin gMod (dBin gDiv (dV 6) (dC (.int 9))) (dC (.int 8)))) [s0, s1, s2, .sh (.tup (names.map PV.str)), .ow (P.map It.p), .sh (.int (heads : Nat)), .sh (.int cell), s7, s8] = some (.int (-(j : Int))) := by
        refine (dUn_eq (x := .int (j : Int)) ?_).trans rfl
        rw [← ej]
        exact (dBin_eq (x := .int ((1 : Nat) : Int)) rfl ((dBin_eq (x := .int (cell / 9)) (y := .int ((8 : Nat) : Int)) rfl rfl).trans (gMod_nat _ (by decide)))).trans rfl
      unfold oSome
      rw [this]
      rfl
    refine (dSl_eq (l := P.map It.p) rfl eo rfl).trans ?_
    rw [cut_last _ j (by omega), List.length_map, ← List.map_drop, eB]
  have hb0 : Pb ≠ [] := fun z => by rw [z] at lb; simp at lb; omega
  obtain ⟨M, eM, leM, inM⟩ := gMax_nat (Pb.map It.d) (by simpa using hb0)
  have c3 : ∀ s8, dComp (nList (dV 7)) tTrue (dBin gIx (dV 0) (dC (.int 3))) [s0, s1, s2, .sh (.tup (names.map PV.str)), .ow (P.map It.p), .sh (.int (heads : Nat)), .sh (.int cell), .sh (.lst (Pb.map It.p)), s8] = some (.lst (Pb.map fun i => .int (i.d : Nat))) := fun s8 => dComp_of It.p (fun i => .int (i.d : Nat)) rfl (by omega) fun i _ => ix_it i _ 3 _ rfl
  have hMx : gMaxL (.lst (Pb.map fun i => .int (i.d : Nat))) = some (.int (M : Nat)) := by
    have e : pints (Pb.map It.d) = .lst (Pb.map fun i => .int (i.d : Nat)) := by
      unfold pints
      rw [List.map_map]
      rfl
    rw [← e]
    exact eM
  have app : ∀ (Z : List It) (r : It) (s5 s7 s8 : Slot), Z.length ≤ 1000 → ∀ {E : Den}, E [s0, s1, s2, .sh (.tup (names.map PV.str)), .ow (Z.map It.p), s5, .sh (.int cell), s7, s8] = some r.p → sMut 4 mAppend (dCons E dNil) [s0, s1, s2, .sh (.tup (names.map PV.str)), .ow (Z.map It.p), s5, .sh (.int cell), s7, s8] = some (.nx [s0, s1, s2, .sh (.tup (names.map PV.str)), .ow ((Z ++ [r]).map It.p), s5, .sh (.int cell), s7, s8]) := fun Z r s5 s7 s8 hZ E hE => by
    show ((dCons E dNil) [s0, s1, s2, .sh (.tup (names.map PV.str)), .ow (Z.map It.p), s5, .sh (.int cell), s7, s8]).bind _ = _
    rw [dCons_eq hE rfl]
    show ((if (Z.map It.p).length < sizeLine then some (Z.map It.p ++ [r.p]) else none).map fun l' => Fl.nx [s0, s1, s2, .sh (.tup (names.map PV.str)), .ow l', s5, .sh (.int cell), s7, s8]) = _
    rw [if_pos (by rw [List.length_map]; omega), List.map_append]
    rfl
  have T1 : tV (dBin gLt (dBin gMod (dV 6) (dC (.int 9))) (dC (.int 6))) [s0, s1, s2, .sh (.tup (names.map PV.str)), .ow (P.map It.p), .sh (.int (heads : Nat)), .sh (.int cell), .sh (.lst (Pb.map It.p)), .sh (.int (M : Nat))] = some (decide (cell % 9 < 6)) := tV_eq rfl
  have T2 : tV (dBin gGt (dV 8) (dC (.int 11))) [s0, s1, s2, .sh (.tup (names.map PV.str)), .ow (P.map It.p), .sh (.int (heads : Nat)), .sh (.int cell), .sh (.lst (Pb.map It.p)), .sh (.int (M : Nat))] = some (decide ((11 : Int) < (M : Int))) := tV_eq rfl
  have T3 : tV (dBin gGt (dV 5) (dC (.int 13))) [s0, s1, s2, .sh (.tup (names.map PV.str)), .ow (P.map It.p), .sh (.int (heads : Nat)), .sh (.int cell), .sh (.lst (Pb.map It.p)), .sh (.int (M : Nat))] = some (decide ((13 : Int) < (heads : Int))) := tV_eq rfl
  have pre : ∀ {fl : Fl} {X : DenS}, X [s0, s1, s2, .sh (.tup (names.map PV.str)), .ow (P.map It.p), .sh (.int (heads : Nat)), .sh (.int cell), .sh (.lst (Pb.map It.p)), .sh (.int (M : Nat))] = some fl → (sSeq (sSet 7 (dSl (dV 4) (oSome (dUn gNeg (dBin gAdd (dC (.int 1)) (dBin gMod (dBin gDiv (dV 6) (dC (.int 9))) (dC (.int 8)))))) oNone)) (sSeq (sSet 8 (dUn gMaxL (dComp (nList (dV 7)) tTrue (dBin gIx (dV 0) (dC (.int 3)))))) X)) [s0, s1, s2, .sh (.tup (names.map PV.str)), .ow (P.map It.p), .sh (.int (heads : Nat)), .sh (.int cell), s7, s8] = some fl := fun hX => (sSeq_nx (sSet_eq e1)).trans ((sSeq_nx (sSet_eq ((dUn_eq (c3 _)).trans hMx))).trans hX)
  have handCase : ∃ (Q : List It) (heads' : Nat) (t7 t8 : Slot), Pile Ok (k + 1) Q ∧ (sMut 4 mAppend (dCons (dCall F_law_hand (dCons (dBin gIx (dV 3) (dBin gMod (dBin gDiv (dV 6) (dC (.int 9))) (dUn gLen (dV 3)))) dNil)) dNil)) [s0, s1, s2, .sh (.tup (names.map PV.str)), .ow (P.map It.p), .sh (.int (heads : Nat)), .sh (.int cell), .sh (.lst (Pb.map It.p)), .sh (.int (M : Nat))] = some (.nx [s0, s1, s2, .sh (.tup (names.map PV.str)), .ow (Q.map It.p), .sh (.int (heads' : Nat)), .sh (.int cell), t7, t8]) := by
    obtain ⟨x, hx, ex⟩ := roll_ix B hn hH h0 (cell / 9) (A := dV 3) (L := dBin gDiv (dV 6) (dC (.int 9))) (ρ := [s0, s1, s2, .sh (.tup (names.map PV.str)), .ow (P.map It.p), .sh (.int (heads : Nat)), .sh (.int cell), .sh (.lst (Pb.map It.p)), .sh (.int (M : Nat))]) rfl rfl
    have hl := hn x hx
    refine ⟨P ++ [⟨.ins 0 [.str x], .tup [.str "hand", .str x], x, 0⟩], heads, _, _, ⟨by rw [List.length_append]; omega, by rw [List.length_append, List.length_singleton]; omega, fun i hi => ?_, fun i hi => ?_, by rw [wt_app, wt_one]; show _ + (x.length + 2) ≤ _; omega⟩, app P _ _ _ _ (by omega) ((dCall_eq (dCons_eq ex rfl)).trans (hH x))⟩
    · rcases List.mem_append.mp hi with hi | hi
      · exact p3 i hi
      · obtain rfl := List.mem_singleton.mp hi
        exact B.hand x hx
    · rcases List.mem_append.mp hi with hi | hi
      · exact p4 i hi
      · obtain rfl := List.mem_singleton.mp hi
        exact Nat.zero_le _
  by_cases g1 : cell % 9 < 6
  · obtain ⟨Q, h', t7, t8, q1, q2⟩ := handCase
    exact ⟨Q, h', t7, t8, q1, pre ((sIf_t (tOr_t (T1.trans (by rw [decide_eq_true g1])))).trans q2)⟩
  · by_cases g2 : (11 : Int) < (M : Int)
    · obtain ⟨Q, h', t7, t8, q1, q2⟩ := handCase
      exact ⟨Q, h', t7, t8, q1, pre ((sIf_t ((tOr_f (T1.trans (by rw [decide_eq_false g1]))).trans (tOr_t (T2.trans (by rw [decide_eq_true g2]))))).trans q2)⟩
    · by_cases g3 : (13 : Int) < (heads : Int)
      · obtain ⟨Q, h', t7, t8, q1, q2⟩ := handCase
        exact ⟨Q, h', t7, t8, q1, pre ((sIf_t ((tOr_f (T1.trans (by rw [decide_eq_false g1]))).trans ((tOr_f (T2.trans (by rw [decide_eq_false g2]))).trans (T3.trans (by rw [decide_eq_true g3]))))).trans q2)⟩
      · have c9 := Int.emod_lt_of_pos cell (show (0 : Int) < 9 by decide)
        have hm := mod_lt (cell / 72) (n := Pb.length) (by omega)
        have ek : cell % 9 - 6 = (((cell % 9 - 6).toNat : Nat) : Int) := by omega
        obtain ⟨r, r1, ⟨i, hi, r2⟩, r3, r4⟩ := hF (kind := (cell % 9 - 6).toNat) (m := 1 + (cell / 72 % (Pb.length : Int)).toNat) (by omega) (its := Pb) hb0 (by omega) (by omega) (by omega) (by omega) fun i hi => p3 i (mb i hi)
        have hMd : i.d ≤ M := leM _ (List.mem_map.mpr ⟨i, hi, rfl⟩)
        refine ⟨Pa ++ [r], heads + 1, .sh (.lst (Pb.map It.p)), .sh (.int (M : Nat)), ⟨by rw [List.length_append, List.length_singleton]; omega, by rw [List.length_append, List.length_singleton]; omega, fun x hx => ?_, fun x hx => ?_, by rw [wt_app, wt_one]; omega⟩, pre ((sIf_f ((tOr_f (T1.trans (by rw [decide_eq_false g1]))).trans ((tOr_f (T2.trans (by rw [decide_eq_false g2]))).trans (T3.trans (by rw [decide_eq_false g3]))))).trans ?_)⟩
        · rcases List.mem_append.mp hx with hx | hx
          · exact p3 x (ma x hx)
          · obtain rfl := List.mem_singleton.mp hx
            exact r1
        · rcases List.mem_append.mp hx with hx | hx
          · exact p4 x (ma x hx)
          · obtain rfl := List.mem_singleton.mp hx
            omega
        · have e4 : dSl (dV 4) oNone (oSome (dBin gSub (dUn gLen (dV 4)) (dUn gLen (dV 7)))) [s0, s1, s2, .sh (.tup (names.map PV.str)), .ow (P.map It.p), .sh (.int (heads : Nat)), .sh (.int cell), .sh (.lst (Pb.map It.p)), .sh (.int (M : Nat))] = some (.lst (Pa.map It.p)) := by
            have eo : (oSome (dBin gSub (dUn gLen (dV 4)) (dUn gLen (dV 7)))) [s0, s1, s2, .sh (.tup (names.map PV.str)), .ow (P.map It.p), .sh (.int (heads : Nat)), .sh (.int cell), .sh (.lst (Pb.map It.p)), .sh (.int (M : Nat))] = some (some ((P.length - j : Nat) : Int)) := by
              show some (some (((P.map It.p).length : Int) - ((Pb.map It.p).length : Int))) = _
              rw [List.length_map, List.length_map, lb]
              congr 2
              omega
            refine (dSl_eq (l := P.map It.p) rfl rfl eo).trans ?_
            rw [cut_head _ _ (by rw [List.length_map]; omega), ← List.map_take, eA]
          refine (sSeq_nx (sSetO_eq e4)).trans ?_
          have e5 : dCall F_law_counted (dCons (dBin gSub (dBin gMod (dV 6) (dC (.int 9))) (dC (.int 6))) (dCons (dBin gAdd (dC (.int 1)) (dBin gMod (dBin gDiv (dV 6) (dC (.int 72))) (dUn gLen (dV 7)))) (dCons (dVS 7) dNil))) [s0, s1, s2, .sh (.tup (names.map PV.str)), .ow (Pa.map It.p), .sh (.int (heads : Nat)), .sh (.int cell), .sh (.lst (Pb.map It.p)), .sh (.int (M : Nat))] = some r.p := by
            refine (dCall_eq (dCons_eq (x := .int (((cell % 9 - 6).toNat : Nat) : Int)) ?_ (dCons_eq (x := .int ((1 + (cell / 72 % (Pb.length : Int)).toNat : Nat) : Int)) ?_ (dCons_eq (x := .lst (Pb.map It.p)) rfl rfl)))).trans r4
            · rw [← ek]
              rfl
            · refine (dBin_eq (x := .int ((1 : Nat) : Int)) rfl ((dBin_eq (x := .int (cell / 72)) (y := .int (Pb.length : Nat)) rfl ?_).trans (gMod_nat _ (by omega)))).trans rfl
              show some (PV.int ((Pb.map It.p).length : Nat)) = _
              rw [List.length_map]
          refine (sSeq_nx (app Pa r _ _ _ (by omega) e5)).trans ?_
          exact sSet_eq rfl
theorem built_for (h0 : names ≠ []) (s0 s1 s2 : Slot) : ∀ (cs : List Int) (k : Nat) (hk : k + cs.length ≤ 100) {P : List It} (hP : Pile Ok k P) (heads : Nat) (s6 s7 s8 : Slot),
    ∃ (Q : List It) (heads' : Nat) (t6 t7 t8 : Slot), Pile Ok (k + cs.length) Q ∧ forL (gtName 6) (b_law_built_1 F_law_folded F_law_hand F_law_cell_at F_law_counted) (cs.map PV.int) [s0, s1, s2, .sh (.tup (names.map PV.str)), .ow (P.map It.p), .sh (.int (heads : Nat)), s6, s7, s8] = some (.nx [s0, s1, s2, .sh (.tup (names.map PV.str)), .ow (Q.map It.p), .sh (.int (heads' : Nat)), t6, t7, t8])
  | [], k, hk, P, hP, heads, s6, s7, s8 => ⟨P, heads, s6, s7, s8, hP, rfl⟩
  | c :: cs, k, hk, P, hP, heads, s6, s7, s8 => by
    rw [List.length_cons] at hk
    obtain ⟨Q, h1, t7, t8, q1, q2⟩ := built_step B hn hH hF h0 s0 s1 s2 c (by omega) hP heads s7 s8
    obtain ⟨Q', h2, u6, u7, u8, q3, q4⟩ := built_for h0 s0 s1 s2 cs (k + 1) (by omega) q1 h1 (.sh (.int c)) t7 t8
    refine ⟨Q', h2, u6, u7, u8, ?_, Eq.trans ?_ q4⟩
    · rw [List.length_cons, show k + (cs.length + 1) = k + 1 + cs.length by omega]
      exact q3
    · exact forL_nx (i := 6) (x := .int c) (xs := cs.map PV.int) (ρ := [s0, s1, s2, .sh (.tup (names.map PV.str)), .ow (P.map It.p), .sh (.int (heads : Nat)), s6, s7, s8]) q2
theorem built_gen (h0 : names ≠ []) (hC : ∀ (ns : List Int) (k : Nat), F_law_cell_at [scr ns, .int k] = some (.int (ns.getD k 0)))
    (hL : ∀ {P : List It}, 1 ≤ P.length → P.length ≤ 57 → (∀ i ∈ P, Ok i) → ∀ {D : Nat}, (∀ i ∈ P, i.d ≤ D) → L2.D.wt P ≤ 10000 → ∀ c : Int, ∃ r : It, Ok r ∧ (r.d ≤ D + 8 ∧ r.t.length ≤ 11000) ∧ F_law_folded [.lst (P.map It.p), .int c] = some r.p)
    (ns : List Int) (a size : Nat) (hs1 : 1 ≤ size) (hs : size ≤ 50) : ∃ r : It, Ok r ∧ (r.d ≤ 20 ∧ r.t.length ≤ 11000) ∧ fn false 9 4 (g_law_built F_law_folded F_law_hand F_law_cell_at F_law_counted) [scr ns, .int a, .int size, .tup (names.map PV.str)] = some r.p := by
  have zl : (100000 : Nat) ≤ sizeLine := by decide
  obtain ⟨x, hx, ex⟩ := roll_ix B hn hH h0 (ns.getD a 0) (A := dV 3) (L := dCall F_law_cell_at (dCons (dVS 0) (dCons (dVS 1) dNil))) (ρ := [.sh (scr ns), .sh (.int a), .sh (.int size), .sh (.tup (names.map PV.str)), .un, .un, .un, .un, .un]) rfl ((dCall_eq (ps := [scr ns, .int a]) rfl).trans (hC ns a))
  have hl := hn x hx
  have cl : (cutP ns (some ((a + 1 : Nat) : Int)) (some ((a + size : Nat) : Int))).length ≤ 49 := by
    unfold cutP sIxP
    simp only
    rw [if_neg (by omega), if_neg (by omega), List.length_take, List.length_drop, Int.toNat_natCast, Int.toNat_natCast]
    omega
  generalize ecs : cutP ns (some ((a + 1 : Nat) : Int)) (some ((a + size : Nat) : Int)) = cs at cl
  have hP0 : Pile Ok 0 [⟨.ins 0 [.str x], .tup [.str "hand", .str x], x, 0⟩] := ⟨by simp, by simp, fun i hi => by
    obtain rfl := List.mem_singleton.mp hi
    exact B.hand x hx, fun i hi => by
    obtain rfl := List.mem_singleton.mp hi
    exact Nat.zero_le _, by rw [wt_one]; show x.length + 2 ≤ _; omega⟩
  obtain ⟨Q, h', t6, t7, t8, q1, q2⟩ := built_for B hn hH hF (F_law_folded := F_law_folded) (F_law_cell_at := F_law_cell_at) h0 (.sh (scr ns)) (.sh (.int a)) (.sh (.int size)) cs 0 (by omega) hP0 0 .un .un .un
  obtain ⟨p1, p2, p3, p4, p5⟩ := q1
  obtain ⟨r, r1, r2, r3⟩ := hL (P := Q) p1 (by omega) p3 p4 (by omega) (ns.getD 1 0)
  refine ⟨r, r1, ⟨by omega, by omega⟩, fn_rt rfl ?_⟩
  refine (sSeq_nx (sSetO_eq (l := [It.p ⟨.ins 0 [.str x], .tup [.str "hand", .str x], x, 0⟩]) (dLst_eq (dCons_eq ((dCall_eq (dCons_eq ex rfl)).trans (hH x)) rfl) (by simp)))).trans ?_
  refine (sSeq_nx (sSet_eq (p := .int ((0 : Nat) : Int)) rfl)).trans ?_
  have ei : nList (dSl (dV 0) (oSome (dBin gAdd (dV 1) (dC (.int 1)))) (oSome (dBin gAdd (dV 1) (dV 2)))) [.sh (scr ns), .sh (.int a), .sh (.int size), .sh (.tup (names.map PV.str)), .ow [It.p ⟨.ins 0 [.str x], .tup [.str "hand", .str x], x, 0⟩], .sh (.int ((0 : Nat) : Int)), .un, .un, .un] = some (cs.map PV.int) := by
    refine nList_eq ((dSl_eq (l := ns.map PV.int) (a := some ((a + 1 : Nat) : Int)) (b := some ((a + size : Nat) : Int)) rfl rfl rfl).trans ?_)
    rw [cutP_map, ecs]
  refine (sSeq_nx ((sFor_eq ei).trans q2)).trans ?_
  refine (sSeq_nx (ρ' := [.sh (scr ns), .sh (.int a), .sh (.int size), .sh (.tup (names.map PV.str)), .sh (.lst (Q.map It.p)), .sh (.int (h' : Nat)), t6, t7, t8]) rfl).trans ?_
  exact sRet_eq ((dCall_eq (dCons_eq (x := .lst (Q.map It.p)) rfl (dCons_eq ((dCall_eq (ps := [scr ns, .int ((1 : Nat) : Int)]) rfl).trans (hC ns 1)) rfl))).trans r3)
end
theorem built_eq {names : List Str} {Ok : It → Prop} (B : OkB names Ok) (hn : ∀ x ∈ names, x.length ≤ 50) (h0 : names ≠ []) (ns : List Int) (a size : Nat) (hs1 : 1 ≤ size) (hs : size ≤ 50) : ∃ r : It, Ok r ∧ (r.d ≤ 20 ∧ r.t.length ≤ 11000) ∧ F_law_built [scr ns, .int a, .int size, .tup (names.map PV.str)] = some r.p :=
  built_gen B hn hand_eq (counted_eq B) h0 cell_eq (folded_gen (counted_eq B)) ns a size hs1 hs
end L2.D.My
set_option Elab.async false
set_option linter.all false
set_option maxRecDepth 100000
set_option maxHeartbeats 2000000
namespace L2.D.My
open PySem
theorem idxS_lt {x : Str} : ∀ {l : List Str}, x ∈ l → idxS x l < l.length
  | [], h => nomatch h
  | y :: l, h => by
    unfold idxS
    by_cases e : y = x
    · rw [if_pos e]; simp
    · rw [if_neg e, List.length_cons]
      have : x ∈ l := (List.mem_cons.mp h).resolve_left fun z => e z.symm
      have := idxS_lt this
      omega
theorem index_eq {names : List Str} {x : Str} (h : x ∈ names) : gIndex (.tup (names.map PV.str)) (.str x) = some (.int (idxS x names : Nat)) := by
  show (strsP (names.map PV.str)).bind (fun ts => if decide (x ∈ ts) then some (PV.int (idxS x ts : Nat)) else none) = _
  rw [strsP_map]
  show (if decide (x ∈ names) then some (PV.int (idxS x names : Nat)) else none) = _
  rw [if_pos (decide_eq_true h)]
theorem notIn_eq {names : List Str} {x : Str} (h : x ∈ names) : gNotIn (.str x) (.tup (names.map PV.str)) = some (.bl false) := by
  have a : (names.map PV.str).all flat = true := List.all_eq_true.mpr fun p hp => by
    obtain ⟨y, _, rfl⟩ := List.mem_map.mp hp
    rfl
  have b : inP (.str x) (names.map PV.str) = true := List.any_eq_true.mpr ⟨.str x, List.mem_map.mpr ⟨x, h, rfl⟩, by
    show (x == x) = true
    simp⟩
  show (if flat (.str x) && (names.map PV.str).all flat then some (PV.bl (!inP (.str x) (names.map PV.str))) else none) = _
  rw [a, b]
  rfl
theorem bit_chk : ((List.range 6).all fun k => (List.range 64).all fun g => decide (Builtin.bitAnd (Builtin.bitOr 0 (1 * 2 ^ k)) (g : Int) = Builtin.bitOr 0 (1 * 2 ^ k)) == decide (Builtin.bitAnd ((g : Int) / 2 ^ k) 1 = 1)) = true := by decide +kernel
theorem bit_at {k g : Nat} (hk : k < 6) (hg : g < 64) : decide (Builtin.bitAnd (Builtin.bitOr 0 (1 * 2 ^ k)) (g : Int) = Builtin.bitOr 0 (1 * 2 ^ k)) = decide (Builtin.bitAnd ((g : Int) / 2 ^ k) 1 = 1) := by
  have := List.all_eq_true.mp (List.all_eq_true.mp bit_chk k (List.mem_range.mpr hk)) g (List.mem_range.mpr hg)
  exact eq_of_beq this
theorem shl_one {k : Nat} (hk : k < 7) : gShl (.int 1) (.int (k : Nat)) = some (.int (1 * 2 ^ k)) := by
  have p : powOk 1 (k : Nat) = true := by
    unfold powOk
    rw [decide_eq_true (by omega), decide_eq_true (by omega), decide_eq_true (by decide)]
    rfl
  show (if powOk 1 (k : Nat) then some (PV.int (1 * 2 ^ ((k : Nat) : Int).toNat)) else none) = _
  rw [if_pos p, Int.toNat_natCast]
theorem group_eq {names : List Str} {x : Str} (h : x ∈ names) (hl : names.length ≤ 6) : F_group_of [.tup (names.map PV.str), .lst [.str x]] = some (.int (Builtin.bitOr 0 (1 * 2 ^ idxS x names))) := by
  have hk := idxS_lt h
  refine fn_rt rfl ?_
  refine (sSeq_nx (sSet_eq (p := .int 0) rfl)).trans ?_
  have b : b_group_of_1 [.sh (.tup (names.map PV.str)), .sh (.lst [.str x]), .sh (.int 0), .sh (.str x)] = some (.nx [.sh (.tup (names.map PV.str)), .sh (.lst [.str x]), .sh (.int (Builtin.bitOr 0 (1 * 2 ^ idxS x names))), .sh (.str x)]) := by
    refine (sSeq_nx ((sIf_f (tV_eq ((dBin_eq (x := .str x) (y := .tup (names.map PV.str)) rfl rfl).trans (notIn_eq h)))).trans rfl)).trans ?_
    exact sSet_eq ((dBin_eq (x := .int 0) rfl ((dBin_eq (x := .int 1) rfl ((dBin_eq (x := .tup (names.map PV.str)) (y := .str x) rfl rfl).trans (index_eq h))).trans (shl_one (by omega)))).trans rfl)
  refine (sSeq_nx ((sFor_eq (xs := [.str x]) (nList_eq rfl)).trans ((forL_nx (i := 3) (x := .str x) (xs := []) b).trans rfl))).trans ?_
  exact sRet_eq rfl
theorem within_eq (a b : Int) : F_within [.int a, .int b] = some (.bl (decide (Builtin.bitAnd a b = a))) := fn_ret rfl rfl
theorem beq_nn : (("name" : Str) == ("name" : Str)) = true := by decide +kernel
theorem beq_pw : (("parts" : Str) == ("wanted" : Str)) = false := by decide +kernel
theorem beq_pp : (("parts" : Str) == ("parts" : Str)) = true := by decide +kernel
theorem beq_ww : (("wanted" : Str) == ("wanted" : Str)) = true := by decide +kernel
theorem fld_name (p : PV) : fldP ftR "name" (.ins 0 [p]) = some p := by
  show List.lookup ("name" : Str) [("name", p)] = _
  rw [List.lookup_cons, beq_nn]
theorem fld_wanted {c : Nat} (h0 : 0 < c) (h4 : c < 4) (w q : PV) : fldP ftR "wanted" (.ins c [w, q]) = some w := by
  have e : ftR c = [("wanted" : Str), ("parts" : Str)] := by
    unfold ftR
    rw [if_neg (by omega), if_pos h4]
  show List.lookup ("wanted" : Str) ((ftR c).zip [w, q]) = _
  rw [e, List.zip_cons_cons, List.lookup_cons, beq_ww]
theorem fld_parts {c : Nat} (h0 : 0 < c) (h4 : c < 4) (w q : PV) : fldP ftR "parts" (.ins c [w, q]) = some q := by
  have e : ftR c = [("wanted" : Str), ("parts" : Str)] := by
    unfold ftR
    rw [if_neg (by omega), if_pos h4]
  show List.lookup ("parts" : Str) ((ftR c).zip [w, q]) = _
  rw [e, List.zip_cons_cons, List.lookup_cons, beq_pw, List.zip_cons_cons, List.lookup_cons, beq_pp]
theorem compL_if {α : Type} {c : DenT} {ρ : Sto} (v : α → PV) (p : α → Bool) : ∀ xs : List α, (∀ x ∈ xs, c (.sh (v x) :: ρ) = some (p x)) → compL c (dVS 0) ρ (xs.map v) = some ((xs.filter p).map v)
  | [], _ => rfl
  | x :: xs, h => by
    have ih := compL_if v p xs fun y hy => h y (List.mem_cons_of_mem _ hy)
    rw [List.map_cons]
    unfold compL
    rw [h x (List.mem_cons_self ..), ih]
    by_cases hp : p x = true
    · rw [List.filter_cons_of_pos hp, hp]
      rfl
    · rw [List.filter_cons_of_neg hp]
      have hp' : p x = false := by simpa using hp
      rw [hp']
      rfl
theorem dComp_if {α : Type} {it : DenL} {c : DenT} {ρ : Sto} (v : α → PV) (p : α → Bool) {xs : List α} (h1 : it ρ = some (xs.map v)) (h2 : xs.length ≤ 5000) (h3 : ∀ x ∈ xs, c (.sh (v x) :: ρ) = some (p x)) : dComp it c (dVS 0) ρ = some (.lst ((xs.filter p).map v)) := by
  have zl : (5000 : Nat) ≤ sizeLine := by decide
  exact dComp_eq h1 (by rw [List.length_map]; omega) (compL_if v p xs h3)
def Tells (names : List Str) (i : It) (v : Nat → Bool) : Prop := ∀ m, i.d ≤ m → ∀ g < 64, (∃ c l, i.o = .ins c l ∧ Tr_lets (m + 1) c [i.o, .tup (names.map PV.str), .int (g : Nat)] = some (.bl (v g))) ∧ Fr_law_holds (m + 1) [i.s, .tup (names.map PV.str), .int (g : Nat)] = some (.bl (v g))
def Ok (names : List Str) (i : It) : Prop := (∃ c l, i.o = .ins c l ∧ c < 4) ∧ ∃ v, Tells names i v
theorem ok_hand {names : List Str} (hl : names.length ≤ 6) {x : Str} (h : x ∈ names) : Ok names ⟨.ins 0 [.str x], .tup [.str "hand", .str x], x, 0⟩ := by
  have hk := idxS_lt h
  refine ⟨⟨0, _, rfl, by decide⟩, fun g => decide (Builtin.bitAnd ((g : Int) / 2 ^ idxS x names) 1 = 1), fun m _ g hg => ⟨⟨0, _, rfl, ?_⟩, ?_⟩⟩
  · show _ = some (PV.bl (decide (Builtin.bitAnd ((g : Int) / 2 ^ idxS x names) 1 = 1)))
    rw [← bit_at (k := idxS x names) (by omega) hg]
    refine fn_ret rfl ((dCall_eq (dCons_eq (x := .int (Builtin.bitOr 0 (1 * 2 ^ idxS x names))) ?_ (dCons_eq (x := .int (g : Nat)) rfl rfl))).trans (within_eq _ _))
    refine (dCall_eq (dCons_eq (x := .tup (names.map PV.str)) rfl (dCons_eq (x := .lst [.str x]) ?_ rfl))).trans (group_eq h hl)
    exact dLst_eq (dCons_eq ((dUn_eq (x := .ins 0 [.str x]) rfl).trans (fld_name _)) rfl) (by simp)
  · refine fn_rt rfl ?_
    refine sSeq_rt ((sIf_t (tV_eq ((dBin_eq (x := .str "hand") (y := .str "hand") rfl rfl).trans ?_))).trans (sRet_eq ?_))
    · show some (PV.bl (decide (("hand" : Str) = "hand"))) = _
      rw [decide_eq_true rfl]
    · refine (dBin_eq (x := .int (Builtin.bitAnd ((g : Int) / 2 ^ idxS x names) 1)) (y := .int 1) ((dBin_eq (x := .int ((g : Int) / 2 ^ idxS x names)) (y := .int 1) ((dBin_eq (x := .int (g : Nat)) (y := .int (idxS x names : Nat)) rfl ((dBin_eq (x := .tup (names.map PV.str)) (y := .str x) rfl rfl).trans (index_eq h))).trans ?_) rfl).trans rfl) rfl).trans rfl
      show (if decide (0 ≤ ((idxS x names : Nat) : Int)) then some (PV.int (((g : Nat) : Int) / 2 ^ ((idxS x names : Nat) : Int).toNat)) else none) = _
      rw [if_pos (decide_eq_true (by omega)), Int.toNat_natCast]
section
variable {names : List Str} {its : List It} {n : Nat} (h8 : its.length ≤ 8) {v : It → Nat → Bool} (hi : ∀ i ∈ its, Tells names i (v i) ∧ i.d ≤ n)
include h8 hi
theorem cnt_lets {m c : Nat} (hm : n < m) (h0 : 0 < c) (h4 : c < 4) (w : Nat) {g : Nat} (hg : g < 64) :
    fn false 4 3 (g_Counting__lets (Tr_lets m)) [.ins c [.int (w : Nat), .tup (its.map It.o)], .tup (names.map PV.str), .int (g : Nat)] = some (.bl (decide (w ≤ (its.filter fun i => v i g).length))) := by
  refine fn_rt rfl ?_
  have dc : dComp (nTup (dUn (fldP ftR "parts") (dV 0))) (tV (dMeth (Tr_lets m) (dVS 0) (dCons (dVS 2) (dCons (dVS 3) dNil)))) (dVS 0) [.sh (.ins c [.int (w : Nat), .tup (its.map It.o)]), .sh (.tup (names.map PV.str)), .sh (.int (g : Nat)), .un] = some (.lst ((its.filter fun i => v i g).map It.o)) := by
    refine dComp_if It.o (fun i => v i g) ?_ (by omega) fun i hi' => ?_
    · show ((dUn (fldP ftR "parts") (dV 0)) [.sh (.ins c [.int (w : Nat), .tup (its.map It.o)]), .sh (.tup (names.map PV.str)), .sh (.int (g : Nat)), .un]).bind itemsT = _
      rw [(dUn_eq (x := .ins c [.int (w : Nat), .tup (its.map It.o)]) rfl).trans (fld_parts h0 h4 _ _)]
      rfl
    · obtain ⟨ht, hd⟩ := hi i hi'
      obtain ⟨k, rfl⟩ : ∃ k, m = k + 1 := ⟨m - 1, by omega⟩
      obtain ⟨⟨ci, l, e, hs⟩, _⟩ := ht k (by omega) g hg
      refine tV_eq ?_
      rw [e] at hs ⊢
      exact hs
  refine (sSeq_nx (sSet_eq dc)).trans (sRet_eq ?_)
  refine (dBin_eq (x := .int ((its.filter fun i => v i g).length : Nat)) (y := .int (w : Nat)) ?_ ((dUn_eq (x := .ins c [.int (w : Nat), .tup (its.map It.o)]) rfl).trans (fld_wanted h0 h4 _ _))).trans ?_
  · show some (PV.int (((its.filter fun i => v i g).map It.o).length : Nat)) = _
    rw [List.length_map]
  · show some (PV.bl (decide ((w : Int) ≤ ((its.filter fun i => v i g).length : Int)))) = _
    congr 2
    rw [decide_eq_decide]
    omega
theorem cnt_holds {m : Nat} (hm : n < m) {g : Nat} (hg : g < 64) {p : PV} {t : PV} (ht : gIx p (.int (-1)) = some (.tup (its.map It.s))) (s3 : Slot) :
    sSet 3 (dUn gLen (dComp (nTup (dBin gIx (dV 0) (dUn gNeg (dC (.int 1))))) (tV (dCall (Fr_law_holds m) (dCons (dVS 0) (dCons (dVS 2) (dCons (dVS 3) dNil))))) (dVS 0))) [.sh p, .sh (.tup (names.map PV.str)), .sh (.int (g : Nat)), s3] = some (.nx [.sh p, .sh (.tup (names.map PV.str)), .sh (.int (g : Nat)), .sh (.int ((its.filter fun i => v i g).length : Nat))]) := by
  have dc : dComp (nTup (dBin gIx (dV 0) (dUn gNeg (dC (.int 1))))) (tV (dCall (Fr_law_holds m) (dCons (dVS 0) (dCons (dVS 2) (dCons (dVS 3) dNil))))) (dVS 0) [.sh p, .sh (.tup (names.map PV.str)), .sh (.int (g : Nat)), s3] = some (.lst ((its.filter fun i => v i g).map It.s)) := by
    refine dComp_if It.s (fun i => v i g) ?_ (by omega) fun i hi' => ?_
    · show ((dBin gIx (dV 0) (dUn gNeg (dC (.int 1)))) [.sh p, .sh (.tup (names.map PV.str)), .sh (.int (g : Nat)), s3]).bind itemsT = _
      rw [(dBin_eq (x := p) (y := .int (-1)) rfl rfl).trans ht]
      rfl
    · obtain ⟨ht, hd⟩ := hi i hi'
      obtain ⟨k, rfl⟩ : ∃ k, m = k + 1 := ⟨m - 1, by omega⟩
      exact tV_eq (ht k (by omega) g hg).2
  refine sSet_eq ((dUn_eq dc).trans ?_)
  show some (PV.int (((its.filter fun i => v i g).map It.s).length : Nat)) = _
  rw [List.length_map]
end
theorem ne_str {x y : Str} (h : x ≠ y) {a b : Den} {ρ : Sto} (ha : a ρ = some (.str x)) (hb : b ρ = some (.str y)) : tV (dBin gEqF a b) ρ = some false := by
  refine tV_eq ((dBin_eq ha hb).trans ?_)
  show some (PV.bl (decide (x = y))) = _
  rw [decide_eq_false h]
theorem eq_str {x : Str} {a b : Den} {ρ : Sto} (ha : a ρ = some (.str x)) (hb : b ρ = some (.str x)) : tV (dBin gEqF a b) ρ = some true := by
  refine tV_eq ((dBin_eq ha hb).trans ?_)
  show some (PV.bl (decide (x = x))) = _
  rw [decide_eq_true rfl]
theorem ah : ("all" : Str) ≠ "hand" := by decide +kernel
theorem yh : ("any" : Str) ≠ "hand" := by decide +kernel
theorem sh' : ("some" : Str) ≠ "hand" := by decide +kernel
theorem ya : ("any" : Str) ≠ "all" := by decide +kernel
theorem sa : ("some" : Str) ≠ "all" := by decide +kernel
theorem sy : ("some" : Str) ≠ "any" := by decide +kernel
theorem tells_of {names : List Str} {its : List It} {n : Nat} (hi : ∀ i ∈ its, Ok names i ∧ i.d ≤ n) : ∃ v : It → Nat → Bool, ∀ i ∈ its, Tells names i (v i) ∧ i.d ≤ n := by
  have : ∀ i : It, ∃ v : Nat → Bool, i ∈ its → Tells names i v ∧ i.d ≤ n := fun i => by
    by_cases h : i ∈ its
    · obtain ⟨⟨_, v, hv⟩, hd⟩ := hi i h
      exact ⟨v, fun _ => ⟨hv, hd⟩⟩
    · exact ⟨fun _ => false, fun z => absurd z h⟩
  exact ⟨fun i => Classical.choose (this i), fun i h => Classical.choose_spec (this i) h⟩
theorem okB {names : List Str} (hl : names.length ≤ 6) : OkB names (Ok names) where
  hand := fun x h => ok_hand hl h
  all := fun its n h0 h8 hw hi => by
    obtain ⟨v, hv⟩ := tells_of hi
    refine ⟨⟨1, _, rfl, by decide⟩, fun g => decide (its.length ≤ (its.filter fun i => v i g).length), fun m hm g hg => ⟨⟨1, _, rfl, ?_⟩, ?_⟩⟩
    · exact cnt_lets h8 hv (m := m) (c := 1) (by have : 1 + n ≤ m := hm; omega) (by decide) (by decide) its.length hg
    · have hm' : 1 + n ≤ m := hm
      refine fn_rt rfl ?_
      refine (sSeq_nx ((sIf_f (ne_str ah rfl rfl)).trans rfl)).trans ?_
      refine (sSeq_nx (cnt_holds h8 hv (m := m) (by omega) hg (t := .non) rfl .un)).trans ?_
      refine sSeq_rt ((sIf_t (eq_str rfl rfl)).trans (sRet_eq ((dBin_eq (x := .int ((its.filter fun i => v i g).length : Nat)) (y := .int (its.length : Nat)) rfl ?_).trans ?_)))
      · show some (PV.int ((its.map It.s).length : Nat)) = _
        rw [List.length_map]
      · rw [gEqF_nat]
        congr 2
        rw [decide_eq_decide]
        have := List.length_filter_le (fun i => v i g) its
        omega
  any := fun its n h0 h8 hw hi => by
    obtain ⟨v, hv⟩ := tells_of hi
    refine ⟨⟨2, _, rfl, by decide⟩, fun g => decide (1 ≤ (its.filter fun i => v i g).length), fun m hm g hg => ⟨⟨2, _, rfl, ?_⟩, ?_⟩⟩
    · exact cnt_lets h8 hv (m := m) (c := 2) (by have : 1 + n ≤ m := hm; omega) (by decide) (by decide) 1 hg
    · have hm' : 1 + n ≤ m := hm
      refine fn_rt rfl ?_
      refine (sSeq_nx ((sIf_f (ne_str yh rfl rfl)).trans rfl)).trans ?_
      refine (sSeq_nx (cnt_holds h8 hv (m := m) (by omega) hg (t := .non) rfl .un)).trans ?_
      refine (sSeq_nx ((sIf_f (ne_str ya rfl rfl)).trans rfl)).trans ?_
      refine sSeq_rt ((sIf_t (eq_str rfl rfl)).trans (sRet_eq ((dBin_eq (x := .int ((its.filter fun i => v i g).length : Nat)) (y := .int 0) rfl rfl).trans ?_)))
      show some (PV.bl (decide ((0 : Int) < ((its.filter fun i => v i g).length : Int)))) = _
      congr 2
      rw [decide_eq_decide]
      omega
  some := fun its n w h0 h8 hw hi h1 h2 => by
    obtain ⟨v, hv⟩ := tells_of hi
    refine ⟨⟨3, _, rfl, by decide⟩, fun g => decide (w ≤ (its.filter fun i => v i g).length), fun m hm g hg => ⟨⟨3, _, rfl, ?_⟩, ?_⟩⟩
    · exact cnt_lets h8 hv (m := m) (c := 3) (by have : 1 + n ≤ m := hm; omega) (by decide) (by decide) w hg
    · have hm' : 1 + n ≤ m := hm
      refine fn_rt rfl ?_
      refine (sSeq_nx ((sIf_f (ne_str sh' rfl rfl)).trans rfl)).trans ?_
      refine (sSeq_nx (cnt_holds h8 hv (m := m) (by omega) hg (t := .non) rfl .un)).trans ?_
      refine (sSeq_nx ((sIf_f (ne_str sa rfl rfl)).trans rfl)).trans ?_
      refine (sSeq_nx ((sIf_f (ne_str sy rfl rfl)).trans rfl)).trans ?_
      refine sRet_eq ((dBin_eq (x := .int ((its.filter fun i => v i g).length : Nat)) (y := .int (w : Nat)) rfl rfl).trans ?_)
      show some (PV.bl (decide ((w : Int) ≤ ((its.filter fun i => v i g).length : Int)))) = _
      congr 2
      rw [decide_eq_decide]
      omega
section
variable {F_law_cell_at F_law_built F_law_counted F_law_hand : List PV → Option PV}
theorem doubled_gen {names : List Str} (hl : names.length ≤ 6) (hn : ∀ x ∈ names, x.length ≤ 50) (h0 : names ≠ [])
    (hC : ∀ (ns : List Int) (k : Nat), F_law_cell_at [scr ns, .int k] = some (.int (ns.getD k 0)))
    (hH : ∀ x : Str, F_law_hand [.str x] = some (It.p ⟨.ins 0 [.str x], .tup [.str "hand", .str x], x, 0⟩))
    (hF : ∀ {kind m : Nat}, kind < 3 → ∀ {its : List It}, its ≠ [] → its.length ≤ 8 → L2.D.wt its ≤ 50000 → 1 ≤ m → m ≤ its.length → (∀ i ∈ its, Ok names i) → ∃ r : It, Ok names r ∧ (∃ i ∈ its, r.d = 1 + i.d) ∧ r.t.length + 2 ≤ L2.D.wt its + 10 ∧ F_law_counted [.int kind, .int m, .lst (its.map It.p)] = some r.p)
    (hB : ∀ (ns : List Int) (a size : Nat), 1 ≤ size → size ≤ 50 → ∃ r : It, Ok names r ∧ (r.d ≤ 20 ∧ r.t.length ≤ 11000) ∧ F_law_built [scr ns, .int a, .int size, .tup (names.map PV.str)] = some r.p)
    (ns : List Int) : ∃ r : It, Ok names r ∧ r.d ≤ 21 ∧ fn false 5 2 (g_law_doubled F_law_cell_at F_law_built F_law_counted F_law_hand) [scr ns, .tup (names.map PV.str)] = some r.p := by
  have c4 : sSet 2 (dCall F_law_cell_at (dCons (dVS 0) (dCons (dC (.int 4)) dNil))) [.sh (scr ns), .sh (.tup (names.map PV.str)), .un, .un, .un] = some (.nx [.sh (scr ns), .sh (.tup (names.map PV.str)), .sh (.int (ns.getD 4 0)), .un, .un]) := sSet_eq ((dCall_eq (ps := [scr ns, .int (4 : Nat)]) rfl).trans (hC ns 4))
  generalize ns.getD 4 0 = cell at c4
  have t : tV (dBin gEqF (dBin gMod (dV 2) (dC (.int 2))) (dC (.int 0))) [.sh (scr ns), .sh (.tup (names.map PV.str)), .sh (.int cell), .un, .un] = some (decide (cell % 2 = 0)) := tV_eq ((dBin_eq (x := .int (cell % 2)) (y := .int 0) rfl rfl).trans (gEqF_int _ _))
  by_cases e : cell % 2 = 0
  · obtain ⟨r, a1, a2, a3⟩ := hB ns 6 50 (by decide) (by decide)
    refine ⟨r, a1, by omega, fn_rt rfl ((sSeq_nx c4).trans (sSeq_rt ((sIf_t (t.trans (by rw [decide_eq_true e]))).trans (sRet_eq ((dCall_eq (ps := [scr ns, .int (6 : Nat), .int (50 : Nat), .tup (names.map PV.str)]) rfl).trans a3)))))⟩
  · obtain ⟨r, a1, a2, a3⟩ := hB ns 6 24 (by decide) (by decide)
    obtain ⟨x, hx, ex⟩ := roll_ix (F_law_hand := F_law_hand) (okB hl) hn hH h0 (cell / 2) (A := dV 1) (L := dBin gDiv (dV 2) (dC (.int 2))) (ρ := [.sh (scr ns), .sh (.tup (names.map PV.str)), .sh (.int cell), .sh r.p, .un]) rfl rfl
    have hlx := hn x hx
    have hk := mod_lt (cell / 12) (n := 3) (by decide)
    have hm := mod_lt (cell / 36) (n := 3) (by decide)
    obtain ⟨q, q1, ⟨i, hi, q2⟩, q3, q4⟩ := hF (kind := (cell / 12 % ((3 : Nat) : Int)).toNat) (m := 1 + (cell / 36 % ((3 : Nat) : Int)).toNat) hk (its := [r, ⟨.ins 0 [.str x], .tup [.str "hand", .str x], x, 0⟩, r]) (by simp) (by simp) (by rw [L2.D.wt_cons, L2.D.wt_cons, L2.D.wt_one]; show _ + (x.length + 2 + _) ≤ _; omega) (by omega) (by show _ ≤ 3; omega) (fun i hi => by
      simp only [List.mem_cons, List.not_mem_nil, or_false] at hi
      rcases hi with rfl | rfl | rfl
      · exact a1
      · exact ok_hand hl hx
      · exact a1)
    refine ⟨q, q1, ?_, fn_rt rfl ((sSeq_nx c4).trans ((sSeq_nx ((sIf_f (t.trans (by rw [decide_eq_false e]))).trans rfl)).trans ((sSeq_nx (sSet_eq ((dCall_eq (ps := [scr ns, .int (6 : Nat), .int (24 : Nat), .tup (names.map PV.str)]) rfl).trans a3))).trans ?_)))⟩
    · simp only [List.mem_cons, List.not_mem_nil, or_false] at hi
      rcases hi with rfl | rfl | rfl
      · omega
      · show q.d ≤ 21
        have : q.d = 1 + 0 := q2
        omega
      · omega
    · refine (sSeq_nx (sSet_eq (p := .lst ([r, ⟨.ins 0 [.str x], .tup [.str "hand", .str x], x, 0⟩, r].map It.p)) (dLst_eq (dCons_eq (x := r.p) rfl (dCons_eq ((dCall_eq (dCons_eq ex rfl)).trans (hH x)) (dCons_eq (x := r.p) rfl rfl))) (by simp)))).trans (sRet_eq ?_)
      refine (dCall_eq (dCons_eq ((dBin_eq (x := .int (cell / 12)) (y := .int ((3 : Nat) : Int)) rfl rfl).trans (gMod_nat _ (by decide))) (dCons_eq (x := .int ((1 + (cell / 36 % ((3 : Nat) : Int)).toNat : Nat) : Int)) ?_ (dCons_eq (x := .lst ([r, ⟨.ins 0 [.str x], .tup [.str "hand", .str x], x, 0⟩, r].map It.p)) rfl rfl)))).trans q4
      exact (dBin_eq (x := .int ((1 : Nat) : Int)) rfl ((dBin_eq (x := .int (cell / 36)) (y := .int ((3 : Nat) : Int)) rfl rfl).trans (gMod_nat _ (by decide)))).trans rfl
end
theorem doubled_eq {names : List Str} (hl : names.length ≤ 6) (hn : ∀ x ∈ names, x.length ≤ 50) (h0 : names ≠ []) (ns : List Int) : ∃ r : It, Ok names r ∧ r.d ≤ 21 ∧ F_law_doubled [scr ns, .tup (names.map PV.str)] = some r.p :=
  doubled_gen hl hn h0 cell_eq hand_eq (counted_eq (okB hl)) (fun ns a size h1 h2 => built_eq (okB hl) hn h0 ns a size h1 h2) ns
theorem roll_eq (ns : List Int) : ∃ xs : List Str, xs ≠ [] ∧ xs.length ≤ 6 ∧ (∀ x ∈ xs, x.length ≤ 50) ∧ F_law_roll [scr ns] = some (.tup (xs.map PV.str)) := by
  have hz := mod_lt (ns.getD 0 0) (n := 6) (by decide)
  obtain ⟨xs, h1, h2, h3⟩ := names_eq ns 2 (1 + (ns.getD 0 0 % ((6 : Nat) : Int)).toNat) (by omega)
  refine ⟨xs, fun z => by rw [z] at h1; simp at h1; omega, by omega, h2, fn_ret rfl ?_⟩
  refine (dUn_eq ((dCall_eq (dCons_eq (x := scr ns) rfl (dCons_eq (x := .int (2 : Nat)) rfl (dCons_eq (x := .int ((1 + (ns.getD 0 0 % ((6 : Nat) : Int)).toNat : Nat) : Int)) ?_ rfl)))).trans h3)).trans rfl
  exact (dBin_eq (x := .int ((1 : Nat) : Int)) rfl ((dBin_eq (y := .int ((6 : Nat) : Int)) ((dCall_eq (ps := [scr ns, .int (0 : Nat)]) rfl).trans (cell_eq ns 0)) rfl).trans (gMod_nat _ (by decide)))).trans rfl
section
variable {F_law_roll F_law_doubled F_law_cell_at F_law_holds : List PV → Option PV} {T_lets : Nat → List PV → Option PV} {names : List Str} {i : It} {v : Nat → Bool}
  (h1 : ∀ g < 64, ∃ c l, i.o = .ins c l ∧ T_lets c [i.o, .tup (names.map PV.str), .int (g : Nat)] = some (.bl (v g)))
  (h2 : ∀ g < 64, F_law_holds [i.s, .tup (names.map PV.str), .int (g : Nat)] = some (.bl (v g)))
include h1 h2
theorem law_body (s0 s4 s5 s6 s8 : Slot) {g : Nat} (hg : g < 64) : b_law_1 F_law_roll F_law_doubled F_law_cell_at F_law_holds T_lets [s0, .sh (.tup (names.map PV.str)), .sh i.o, .sh i.s, s4, s5, s6, .sh (.int (g : Nat)), s8] = some (.nx [s0, .sh (.tup (names.map PV.str)), .sh i.o, .sh i.s, s4, s5, s6, .sh (.int (g : Nat)), .sh (.bl (v g))]) := by
  obtain ⟨c, l, e, h3⟩ := h1 g hg
  have h4 := h2 g hg
  obtain ⟨o, s, t, d⟩ := i
  simp only at e h3 h4 ⊢
  subst e
  have m1 : dMeth T_lets (dVS 2) (dCons (dVS 1) (dCons (dVS 7) dNil)) [s0, .sh (.tup (names.map PV.str)), .sh (.ins c l), .sh s, s4, s5, s6, .sh (.int (g : Nat)), s8] = some (.bl (v g)) := h3
  refine (sSeq_nx (sSet_eq m1)).trans ?_
  refine (sIf_f ((tOr_f (tNot_eq (b := true) (tV_eq rfl))).trans (tV_eq ((dBin_eq (x := .bl (v g)) (y := .bl (v g)) rfl ((dCall_eq (dCons_eq (x := s) rfl (dCons_eq (x := .tup (names.map PV.str)) rfl (dCons_eq (x := .int (g : Nat)) rfl rfl)))).trans h4)).trans ?_)))).trans rfl
  rw [gNeF_bl, decide_eq_true rfl]
  rfl
theorem law_loop (s0 s4 s5 s6 : Slot) : ∀ (gs : List Nat) (s7 s8 : Slot), (∀ g ∈ gs, g < 64) → ∃ t7 t8, forL (gtName 7) (b_law_1 F_law_roll F_law_doubled F_law_cell_at F_law_holds T_lets) (pl gs) [s0, .sh (.tup (names.map PV.str)), .sh i.o, .sh i.s, s4, s5, s6, s7, s8] = some (.nx [s0, .sh (.tup (names.map PV.str)), .sh i.o, .sh i.s, s4, s5, s6, t7, t8])
  | [], s7, s8, _ => ⟨s7, s8, rfl⟩
  | g :: gs, s7, s8, h => by
    obtain ⟨t7, t8, e⟩ := law_loop s0 s4 s5 s6 gs (.sh (.int (g : Nat))) (.sh (.bl (v g))) fun x hx => h x (List.mem_cons_of_mem _ hx)
    exact ⟨t7, t8, (forL_nx (i := 7) (x := .int (g : Nat)) (xs := pl gs) (ρ := [s0, .sh (.tup (names.map PV.str)), .sh i.o, .sh i.s, s4, s5, s6, s7, s8]) (law_body h1 h2 s0 s4 s5 s6 s8 (h g (List.mem_cons_self ..)))).trans e⟩
end
section
variable {F_law_roll F_law_doubled F_law_cell_at F_law_holds : List PV → Option PV} {T_lets : Nat → List PV → Option PV}
theorem law_gen (hT : ∀ (names : List Str) (i : It), Ok names i → i.d ≤ 21 → (∃ c l, i.o = .ins c l ∧ c < 4) ∧ ∃ v : Nat → Bool, (∀ g < 64, ∃ c l, i.o = .ins c l ∧ T_lets c [i.o, .tup (names.map PV.str), .int (g : Nat)] = some (.bl (v g))) ∧ ∀ g < 64, F_law_holds [i.s, .tup (names.map PV.str), .int (g : Nat)] = some (.bl (v g)))
    (hC : ∀ (ns : List Int) (k : Nat), F_law_cell_at [scr ns, .int k] = some (.int (ns.getD k 0)))
    (hR : ∀ ns : List Int, ∃ xs : List Str, xs ≠ [] ∧ xs.length ≤ 6 ∧ (∀ x ∈ xs, x.length ≤ 50) ∧ F_law_roll [scr ns] = some (.tup (xs.map PV.str)))
    (hD : ∀ {names : List Str}, names.length ≤ 6 → (∀ x ∈ names, x.length ≤ 50) → names ≠ [] → ∀ ns : List Int, ∃ r : It, Ok names r ∧ r.d ≤ 21 ∧ F_law_doubled [scr ns, .tup (names.map PV.str)] = some r.p)
    (ns : List Int) : fn false 9 1 (g_law F_law_roll F_law_doubled F_law_cell_at F_law_holds T_lets) [scr ns] = some (.bl true) := by
  obtain ⟨names, x0, xl, xs, ex⟩ := hR ns
  obtain ⟨i, a1, a2, a3⟩ := hD xl xs x0 ns
  obtain ⟨⟨c, l, eo, hc⟩, v, v1, v2⟩ := hT names i a1 a2
  refine fn_rt rfl ?_
  refine (sSeq_nx (sSet_eq ((dCall_eq (ps := [scr ns]) rfl).trans ex))).trans ?_
  have asg : sAsg (gtTup [(gtName 2), (gtName 3), (gtName 4), (gtName 5)]) (dCall F_law_doubled (dCons (dVS 0) (dCons (dVS 1) dNil))) [.sh (scr ns), .sh (.tup (names.map PV.str)), .un, .un, .un, .un, .un, .un, .un] = some (.nx [.sh (scr ns), .sh (.tup (names.map PV.str)), .sh i.o, .sh i.s, .sh (.str i.t), .sh (.int (i.d : Nat)), .un, .un, .un]) := by
    have : dCall F_law_doubled (dCons (dVS 0) (dCons (dVS 1) dNil)) [.sh (scr ns), .sh (.tup (names.map PV.str)), .un, .un, .un, .un, .un, .un, .un] = some i.p := (dCall_eq (ps := [scr ns, .tup (names.map PV.str)]) rfl).trans a3
    show (dCall F_law_doubled (dCons (dVS 0) (dCons (dVS 1) dNil)) [.sh (scr ns), .sh (.tup (names.map PV.str)), .un, .un, .un, .un, .un, .un, .un]).bind _ = _
    rw [this]
    rfl
  refine (sSeq_nx asg).trans ?_
  have r : dUn gIsR (dV 2) [.sh (scr ns), .sh (.tup (names.map PV.str)), .sh i.o, .sh i.s, .sh (.str i.t), .sh (.int (i.d : Nat)), .un, .un, .un] = some (.bl true) := by
    rw [eo]
    show (if decide (c < 4) then some (PV.bl true) else none) = _
    rw [if_pos (decide_eq_true hc)]
  refine (sSeq_nx ((sIf_f (tNot_eq (b := true) (tV_eq r))).trans rfl)).trans ?_
  have hp : 2 ^ names.length ≤ 2 ^ 6 := Nat.pow_le_pow_right (by decide) xl
  have hp0 : 0 < 2 ^ names.length := Nat.pow_pos (by decide)
  generalize eN : 2 ^ names.length = N at hp hp0
  have e6 : dListR (nRng1 (dBin gShl (dC (.int 1)) (dUn gLen (dV 1)))) [.sh (scr ns), .sh (.tup (names.map PV.str)), .sh i.o, .sh i.s, .sh (.str i.t), .sh (.int (i.d : Nat)), .un, .un, .un] = some (.lst (pl (List.range N))) := by
    have el : dUn gLen (dV 1) [.sh (scr ns), .sh (.tup (names.map PV.str)), .sh i.o, .sh i.s, .sh (.str i.t), .sh (.int (i.d : Nat)), .un, .un, .un] = some (.int (names.length : Nat)) := by
      show some (PV.int ((names.map PV.str).length : Nat)) = _
      rw [List.length_map]
    have es : dBin gShl (dC (.int 1)) (dUn gLen (dV 1)) [.sh (scr ns), .sh (.tup (names.map PV.str)), .sh i.o, .sh i.s, .sh (.str i.t), .sh (.int (i.d : Nat)), .un, .un, .un] = some (.int (N : Nat)) := by
      refine (dBin_eq (x := .int 1) rfl el).trans ((shl_one (by omega)).trans ?_)
      rw [← eN]
      congr 2
      rw [Int.one_mul]
      simp
    show (nRng1 (dBin gShl (dC (.int 1)) (dUn gLen (dV 1))) [.sh (scr ns), .sh (.tup (names.map PV.str)), .sh i.o, .sh i.s, .sh (.str i.t), .sh (.int (i.d : Nat)), .un, .un, .un]).bind _ = _
    rw [nRng_nat es (by omega)]
    show (if (pl (List.range N)).length ≤ 100000 then some (PV.lst (pl (List.range N))) else none) = _
    rw [if_pos (by unfold pl; rw [List.length_map, List.length_range]; omega)]
  refine (sSeq_nx (sSet_eq e6)).trans ?_
  have hz := mod_lt (ns.getD 5 0) (n := N) hp0
  have it : nList (dBin gAdd (dUn gRevL (dV 6)) (dLst (dCons (dBin gMod (dCall F_law_cell_at (dCons (dVS 0) (dCons (dC (.int 5)) dNil))) (dUn gLen (dV 6))) dNil))) [.sh (scr ns), .sh (.tup (names.map PV.str)), .sh i.o, .sh i.s, .sh (.str i.t), .sh (.int (i.d : Nat)), .sh (.lst (pl (List.range N))), .un, .un] = some (pl ((List.range N).reverse ++ [(ns.getD 5 0 % (N : Int)).toNat])) := by
    refine nList_eq ((dBin_eq (x := .lst (pl (List.range N)).reverse) (y := .lst [.int ((ns.getD 5 0 % (N : Int)).toNat : Nat)]) rfl (dLst_eq (dCons_eq ((dBin_eq (y := .int (N : Nat)) ((dCall_eq (ps := [scr ns, .int (5 : Nat)]) rfl).trans (hC ns 5)) ?_).trans (gMod_nat _ hp0)) rfl) (by simp))).trans ?_)
    · show some (PV.int ((pl (List.range N)).length : Nat)) = _
      unfold pl
      rw [List.length_map, List.length_range]
    · have zl : (100000 : Nat) ≤ sizeLine := by decide
      show (if (pl (List.range N)).reverse.length + 1 ≤ sizeLine then some (PV.lst ((pl (List.range N)).reverse ++ [.int ((ns.getD 5 0 % (N : Int)).toNat : Nat)])) else none) = _
      rw [if_pos (by unfold pl; rw [List.length_reverse, List.length_map, List.length_range]; omega)]
      unfold pl
      rw [List.map_append, List.map_reverse]
      rfl
  obtain ⟨t7, t8, f⟩ := law_loop (F_law_roll := F_law_roll) (F_law_doubled := F_law_doubled) (F_law_cell_at := F_law_cell_at) v1 v2 (.sh (scr ns)) (.sh (.str i.t)) (.sh (.int (i.d : Nat))) (.sh (.lst (pl (List.range N)))) ((List.range N).reverse ++ [(ns.getD 5 0 % (N : Int)).toNat]) .un .un (fun g hg => by
    rcases List.mem_append.mp hg with hg | hg
    · have := List.mem_range.mp (List.mem_reverse.mp hg)
      omega
    · obtain rfl := List.mem_singleton.mp hg
      omega)
  exact (sSeq_nx ((sFor_eq it).trans f)).trans rfl
end
theorem tabs (names : List Str) (i : It) (h : Ok names i) (hd : i.d ≤ 21) : (∃ c l, i.o = .ins c l ∧ c < 4) ∧ ∃ v : Nat → Bool, (∀ g < 64, ∃ c l, i.o = .ins c l ∧ T_lets c [i.o, .tup (names.map PV.str), .int (g : Nat)] = some (.bl (v g))) ∧ ∀ g < 64, F_law_holds [i.s, .tup (names.map PV.str), .int (g : Nat)] = some (.bl (v g)) := by
  obtain ⟨hc, v, hv⟩ := h
  exact ⟨hc, v, fun g hg => (hv 23 (by omega) g hg).1, fun g hg => (hv 23 (by omega) g hg).2⟩
theorem law_true (ns : List Int) (h : ns.length ≤ 63) : F_law [.lst (ns.map .int)] = some (.bl true) := law_gen tabs cell_eq roll_eq doubled_eq ns
end L2.D.My
open PySem PySem.W PyProof.Rows
set_option maxRecDepth 100000 in
set_option maxHeartbeats 0 in
theorem PySem.Challenge.cw_signright_k24_who_may_sign_holds : PySem.Challenge.rw_signright_k24_who_may_sign.Holds := by
  w_on; o_law; k_head; (case hw => w_witness2)
  k_fill
  refine L2.D.walkD2 (l := PySem.Challenge.rw_signright_k24_who_may_sign) (k := 27) (x := "_law_script") (F := L2.D.My.F_law) rfl (by decide) rfl ⟨rfl, by decide, by decide⟩ (fun w h Y => PySem.W.kIn_of Y) ?F L2.D.My.law_true
  case F =>
    intro w mg fa h KX G hmg
    refine' L2.D.My.all_mk KX G hmg ?a_Rule ?a_Counting ?a_Hand ?a_All ?a_Any ?a_Some ?pg_Hand ?hd_Hand ?po_Hand ?sa_Hand ?mk_Hand ?kc_Hand ?ih_Hand ?im_Hand ?ik_Hand ?n_Hand_name ?pg_All ?hd_All ?po_All ?sa_All ?mk_All ?kc_All ?ih_All ?im_All ?ik_All ?n_All_wanted ?n_All_parts ?pg_Any ?hd_Any ?po_Any ?sa_Any ?mk_Any ?kc_Any ?ih_Any ?im_Any ?ik_Any ?n_Any_wanted ?n_Any_parts ?pg_Some ?hd_Some ?po_Some ?sa_Some ?mk_Some ?kc_Some ?ih_Some ?im_Some ?ik_Some ?n_Some_wanted ?n_Some_parts ?in_ ?it_ ?fiH ?fnH ?l_iH ?c_iH ?k_iH ?fiA ?fnA ?l_iA ?c_iA ?k_iA ?fiY ?fnY ?l_iY ?c_iY ?k_iY ?fiS ?fnS ?l_iS ?c_iS ?k_iS ?fiC ?fnC ?l_iC ?c_iC ?k_iC ?rdC ?fcC ?gaC ?hdC ?a_within ?l_within ?cd__within ?k_within ?a_group_of ?l_group_of ?cd__group_of ?k_group_of ?mf_All_lets ?mf_Any_lets ?mf_Some_lets ?fn_Counting__lets ?l_Counting__lets ?cd__Counting__lets ?k_Counting__lets ?mf_Hand_lets ?fn_Hand__lets ?l_Hand__lets ?cd__Hand__lets ?k_Hand__lets ?a_law_cell_at ?l_law_cell_at ?cd__law_cell_at ?k_law_cell_at ?a_law_name ?l_law_name ?cd__law_name ?k_law_name ?a_law_base ?l_law_base ?cd__law_base ?k_law_base ?a_law_names ?l_law_names ?cd__law_names ?k_law_names ?a_law_roll ?l_law_roll ?cd__law_roll ?k_law_roll ?a_law_counted ?l_law_counted ?cd__law_counted ?k_law_counted ?a_law_folded ?l_law_folded ?cd__law_folded ?k_law_folded ?a_law_hand ?l_law_hand ?cd__law_hand ?k_law_hand ?a_law_built ?l_law_built ?cd__law_built ?k_law_built ?a_law_doubled ?l_law_doubled ?cd__law_doubled ?k_law_doubled ?a_law_holds ?l_law_holds ?cd__law_holds ?k_law_holds ?a_law ?l_law ?cd__law ?k_law ?z_bool ?z_isinstance ?z_len ?z_list ?z_max ?z_range ?z_str ?z_tuple
    (case a_Rule => k_is)
    (case a_Counting => k_is)
    (case a_Hand => k_is)
    (case a_All => k_is)
    (case a_Any => k_is)
    (case a_Some => k_is)
    (case pg_Hand => k_is)
    (case hd_Hand => k_is)
    (case po_Hand => k_is)
    (case sa_Hand => k_is)
    (case mk_Hand => k_is)
    (case kc_Hand => k_is)
    (case ih_Hand => k_is)
    (case im_Hand => k_is)
    (case ik_Hand => kit_is)
    (case n_Hand_name => k_is)
    (case pg_All => k_is)
    (case hd_All => k_is)
    (case po_All => k_is)
    (case sa_All => k_is)
    (case mk_All => k_is)
    (case kc_All => k_is)
    (case ih_All => k_is)
    (case im_All => k_is)
    (case ik_All => kit_is)
    (case n_All_wanted => k_is)
    (case n_All_parts => k_is)
    (case pg_Any => k_is)
    (case hd_Any => k_is)
    (case po_Any => k_is)
    (case sa_Any => k_is)
    (case mk_Any => k_is)
    (case kc_Any => k_is)
    (case ih_Any => k_is)
    (case im_Any => k_is)
    (case ik_Any => kit_is)
    (case n_Any_wanted => k_is)
    (case n_Any_parts => k_is)
    (case pg_Some => k_is)
    (case hd_Some => k_is)
    (case po_Some => k_is)
    (case sa_Some => k_is)
    (case mk_Some => k_is)
    (case kc_Some => k_is)
    (case ih_Some => k_is)
    (case im_Some => k_is)
    (case ik_Some => kit_is)
    (case n_Some_wanted => k_is)
    (case n_Some_parts => k_is)
    (case in_ => k_is)
    (case it_ => k_is)
    (case fiH => k_is)
    (case fnH => k_is)
    (case l_iH => k_is)
    (case c_iH => k_is)
    (case k_iH => k_is)
    (case fiA => k_is)
    (case fnA => k_is)
    (case l_iA => k_is)
    (case c_iA => k_is)
    (case k_iA => k_is)
    (case fiY => k_is)
    (case fnY => k_is)
    (case l_iY => k_is)
    (case c_iY => k_is)
    (case k_iY => k_is)
    (case fiS => k_is)
    (case fnS => k_is)
    (case l_iS => k_is)
    (case c_iS => k_is)
    (case k_iS => k_is)
    (case fiC => k_is)
    (case fnC => k_is)
    (case l_iC => k_is)
    (case c_iC => k_is)
    (case k_iC => k_is)
    (case rdC => k_is)
    (case fcC => k_is)
    (case gaC => k_is)
    (case hdC => rfl)
    (case a_within => k_is)
    (case l_within => k_is)
    (case cd__within => k_is)
    (case k_within => k_is)
    (case a_group_of => k_is)
    (case l_group_of => k_is)
    (case cd__group_of => k_is)
    (case k_group_of => k_is)
    (case mf_All_lets => k_is)
    (case mf_Any_lets => k_is)
    (case mf_Some_lets => k_is)
    (case fn_Counting__lets => k_is)
    (case l_Counting__lets => k_is)
    (case cd__Counting__lets => k_is)
    (case k_Counting__lets => k_is)
    (case mf_Hand_lets => k_is)
    (case fn_Hand__lets => k_is)
    (case l_Hand__lets => k_is)
    (case cd__Hand__lets => k_is)
    (case k_Hand__lets => k_is)
    (case a_law_cell_at => k_is)
    (case l_law_cell_at => k_is)
    (case cd__law_cell_at => k_is)
    (case k_law_cell_at => k_is)
    (case a_law_name => k_is)
    (case l_law_name => k_is)
    (case cd__law_name => k_is)
    (case k_law_name => k_is)
    (case a_law_base => k_is)
    (case l_law_base => k_is)
    (case cd__law_base => k_is)
    (case k_law_base => k_is)
    (case a_law_names => k_is)
    (case l_law_names => k_is)
    (case cd__law_names => k_is)
    (case k_law_names => k_is)
    (case a_law_roll => k_is)
    (case l_law_roll => k_is)
    (case cd__law_roll => k_is)
    (case k_law_roll => k_is)
    (case a_law_counted => k_is)
    (case l_law_counted => k_is)
    (case cd__law_counted => k_is)
    (case k_law_counted => k_is)
    (case a_law_folded => k_is)
    (case l_law_folded => k_is)
    (case cd__law_folded => k_is)
    (case k_law_folded => k_is)
    (case a_law_hand => k_is)
    (case l_law_hand => k_is)
    (case cd__law_hand => k_is)
    (case k_law_hand => k_is)
    (case a_law_built => k_is)
    (case l_law_built => k_is)
    (case cd__law_built => k_is)
    (case k_law_built => k_is)
    (case a_law_doubled => k_is)
    (case l_law_doubled => k_is)
    (case cd__law_doubled => k_is)
    (case k_law_doubled => k_is)
    (case a_law_holds => k_is)
    (case l_law_holds => k_is)
    (case cd__law_holds => k_is)
    (case k_law_holds => k_is)
    (case a_law => k_is)
    (case l_law => k_is)
    (case cd__law => k_is)
    (case k_law => k_is)
    (case z_bool => k_is)
    (case z_isinstance => k_is)
    (case z_len => k_is)
    (case z_list => k_is)
    (case z_max => k_is)
    (case z_range => k_is)
    (case z_str => k_is)
    (case z_tuple => k_is)
