import PyProof.Rows.All
import Wide.All
import OpenK.AllK
import Wide.FinOn
import Lean
import PyProof.EqAt
import PyProof.EqKinds
import PyProof.TupleCall
import PyProof.Rows.SortPure
import PySem.Builtin.Int.W1All
import PySem.Sem
import PyProof.StrBlockL
import PyProof.SliceStr2
import PyProof.StrCalls2
import PyProof.WalkInts
import PyProof.Rows.StrStep
import PyProof.FactsAll.tuple_0
import PyProof.FactsAll.tuple_2
import PyProof.FactsAll.tuple_3
import PyProof.FString5
import PyProof.StrOps2
import PyProof.StrWalks
import PyProof.FString
import PyProof.FString4
import PyProof.ReprStr
import PyProof.ExcClass3
import PyProof.ExcBaseAll.ValueError
import KE.KIsAll
import OpenK.KDescr
import OpenK.KOwn
import PyProof.ExcArgsOwn
import PyProof.RulesAs
import PyProof.NsDelKeeps
import PyProof.StationsW
import PyProof.FitsInt
import PyProof.StrLawsRepr
import PyProof.PassesOwn
import PyProof.StrCalls
import PyProof.StrLawsIdx
import PyProof.SliceList
import PySem.Challenge.RW_signright_k02_groups_and_names
set_option Elab.async false
set_option linter.all false
set_option maxRecDepth 100000
namespace L2
open PySem PySem.Spec PyProof.Rows
abbrev Key := Sum Int Str
def keyIs : Key → Value → Bool
  | .inl k, v => Value.isInt k v
  | .inr x, v => Value.isStrOf x v
def keyH (w : World) : Key → Int
  | .inl k => hashInt k
  | .inr x => hashStr w x
theorem keyIs_shape : ∀ {k : Key} {v : Value}, keyIs k v = true → (∃ i t, k = Sum.inl i ∧ v = Value.int i t) ∨ (∃ x t, k = Sum.inr x ∧ v = Value.str x t)
  | .inl i, v, h => by
    obtain ⟨t, e⟩ := Value.isInt_shape (k := i) (v := v) h
    exact .inl ⟨i, t, rfl, e⟩
  | .inr x, v, h => by
    obtain ⟨t, e⟩ := Value.isStrOf_shape (x := x) (v := v) h
    exact .inr ⟨x, t, rfl, e⟩
theorem key_ll (a b : Int) : decide ((Sum.inl a : Key) = Sum.inl b) = (a == b) := by
  by_cases e : a = b
  · subst e; simp
  · have h : ¬ (Sum.inl a : Key) = Sum.inl b := fun q => e (Sum.inl.inj q)
    rw [decide_eq_false h]
    exact (beq_eq_false_iff_ne.mpr e).symm
theorem key_rr (a b : Str) : decide ((Sum.inr a : Key) = Sum.inr b) = decide (a = b) := by
  by_cases e : a = b
  · subst e; simp
  · have h : ¬ (Sum.inr a : Key) = Sum.inr b := fun q => e (Sum.inr.inj q)
    rw [decide_eq_false h, decide_eq_false e]
theorem key_lr (a : Int) (b : Str) : decide ((Sum.inl a : Key) = Sum.inr b) = false := decide_eq_false (fun q => nomatch q)
theorem key_rl (a : Str) (b : Int) : decide ((Sum.inr a : Key) = Sum.inl b) = false := decide_eq_false (fun q => nomatch q)
def mixKind (prog : Program) (w : World) : PySem.KeyKind prog w Key where
  is := keyIs
  hash := keyH w
  inj := fun v a b ha hb => by
    rcases keyIs_shape ha with ⟨i, t, rfl, rfl⟩ | ⟨x, t, rfl, rfl⟩
    · rcases keyIs_shape hb with ⟨j, u, rfl, e⟩ | ⟨y, u, rfl, e⟩
      · injection e with e1 _; rw [e1]
      · exact nomatch e
    · rcases keyIs_shape hb with ⟨j, u, rfl, e⟩ | ⟨y, u, rfl, e⟩
      · exact nomatch e
      · injection e with e1 _; rw [e1]
  byValue := fun k v h => by
    rcases keyIs_shape h with ⟨i, t, rfl, rfl⟩ | ⟨x, t, rfl, rfl⟩ <;> rfl
  pyHash := fun hv h => by
    rcases keyIs_shape hv with ⟨i, t, rfl, rfl⟩ | ⟨x, t, rfl, rfl⟩
    · exact wpAny_pyHash_int h
    · exact wpAny_pyHash_str h
  eqBool := fun hu hv h => by
    rcases keyIs_shape hu with ⟨i, t, rfl, rfl⟩ | ⟨x, t, rfl, rfl⟩
    · rcases keyIs_shape hv with ⟨j, u, rfl, rfl⟩ | ⟨y, u, rfl, rfl⟩
      · rw [key_ll] at h; exact wpAny_eqBool_int h
      · rw [key_lr] at h; exact SeqAt.EqAt.int_str i t y u _ _ _ _ h
    · rcases keyIs_shape hv with ⟨j, u, rfl, rfl⟩ | ⟨y, u, rfl, rfl⟩
      · rw [key_rl] at h; exact SeqAt.EqAt.str_int x t j u _ _ _ _ h
      · rw [key_rr] at h; exact wpAny_eqBool_str h
  «strs» := fun k x t v h => by
    rcases keyIs_shape h with ⟨i, u, rfl, e⟩ | ⟨y, u, rfl, e⟩
    · exact nomatch e
    · injection e with e1 _
      subst e1
      cases v <;> rfl
end L2
namespace L2
open PySem PySem.Spec PyProof.Rows
inductive V where
  | non | bl (b : Bool) | int (i : Int) | str (x : Str) | byt (b : Array UInt8) | flt (b : UInt64) | ref (a : Addr) | ty (n : String)
  deriving DecidableEq
def RelV : V → Value → Prop
  | .non, u => u = Value.none
  | .bl b, u => u = Value.bool b
  | .int i, u => ∃ t, u = Value.int i t
  | .str x, u => ∃ t, u = Value.str x t
  | .byt b, u => ∃ t, u = Value.bytes b t
  | .flt b, u => ∃ t, u = Value.float b t
  | .ref a, u => u = Value.ref a
  | .ty n, u => u = Value.type n
abbrev Vals : List V → List Value → Prop := Paired RelV
theorem Vals.length {xs : List V} {us : List Value} (r : Vals xs us) : xs.length = us.length := Paired.length r
theorem Vals.get : ∀ {xs : List V} {us : List Value} {i : Nat} {x : V}, Vals xs us → xs[i]? = some x → ∃ u, us[i]? = some u ∧ RelV x u
  | _, _, _, _, .nil, e => by simp at e
  | _, _, 0, _, .cons r _, e => by simp at e; subst e; exact ⟨_, rfl, r⟩
  | _, _, i + 1, x, .cons _ t, e => by
    obtain ⟨u, h1, h2⟩ := Vals.get (i := i) (x := x) t (by simpa using e)
    exact ⟨u, by simpa using h1, h2⟩
theorem Vals.append : ∀ {xs ys : List V} {us ws : List Value}, Vals xs us → Vals ys ws → Vals (xs ++ ys) (us ++ ws)
  | _, _, _, _, .nil, s => s
  | _, _, _, _, .cons r t, s => .cons r (Vals.append t s)
theorem Vals.take : ∀ {xs : List V} {us : List Value} (n : Nat), Vals xs us → Vals (xs.take n) (us.take n)
  | _, _, 0, _ => .nil
  | _, _, _ + 1, .nil => .nil
  | _, _, n + 1, .cons r t => .cons r (Vals.take n t)
theorem Vals.drop : ∀ {xs : List V} {us : List Value} (n : Nat), Vals xs us → Vals (xs.drop n) (us.drop n)
  | _, _, 0, r => r
  | _, _, _ + 1, .nil => .nil
  | _, _, n + 1, .cons _ t => Vals.drop n t
def RelO : Option V → Option Value → Prop
  | some v, some u => RelV v u
  | none, none => True
  | _, _ => False
def KV {κ : Type} : List (κ × V) → List (κ × Value) → Prop := Paired fun (p : κ × V) (q : κ × Value) => p.1 = q.1 ∧ RelV p.2 q.2
def kV : Key → V
  | .inl i => .int i
  | .inr x => .str x
inductive HO where
  | lst (xs : List V)
  | tup (xs : List V)
  | dK (kvs : List (Key × V)) | dT (kvs : List (List Key × V))
  | set (S : Int → Bool) (n : Nat)
  | ins (C dx : Addr) (fs : List (Str × V))
  | own (x : Addr)
  | xd (fs : List (Str × V))
  | met (f x : Addr)
  | rng (lo hi : Int)
  | frz (o : Obj) (u : HO)
  | tbl (ps : Array Value)
  | ext (φ : Heap → Prop)
abbrev Hp := Addr → Option HO
def upd (H : Hp) (a : Addr) (o : HO) : Hp := fun b => if b = a then some o else H b
theorem upd_same {H : Hp} {a : Addr} {o : HO} : upd H a o a = some o := by unfold upd; rw [if_pos rfl]
theorem upd_ne {H : Hp} {a b : Addr} {o : HO} (h : b ≠ a) : upd H a o b = H b := by unfold upd; rw [if_neg h]
theorem upd_upd {H : Hp} {a : Addr} {o u : HO} : upd (upd H a o) a u = upd H a u := by
  funext b; unfold upd; split <;> rfl
theorem ne_of_none {H : Hp} {a b : Addr} {o : HO} (h : H a = some o) (h' : H b = none) : a ≠ b := by
  intro e; subst e; rw [h] at h'; cases h'
section
variable (P : Program) (w : World)
def NoD (h : Heap) (a : Addr) : Prop := ∃ o, h.get? a = some o ∧ o.dict = none
def ObjOk (H : Hp) (h : Heap) (a : Addr) : HO → Prop
  | .lst xs => xs.length ≤ sizeLine ∧ ∃ (its : List Value) (n : Nat), Vals xs its ∧ h.get? a = some { cls := .type "list", data := .seq its.toArray n }
  | .tup xs => (xs.length ≤ sizeLine ∧ NoD h a) ∧ ∃ its : List Value, Vals xs its ∧ IsTup h a its.toArray
  | .dK kvs => kvs.length ≤ sizeLine ∧ (a == sysModules) = false ∧ ∃ vs, KV kvs vs ∧ h.DictOf (mixKind P w) a vs
  | .dT kvs => kvs.length ≤ sizeLine ∧ (a == sysModules) = false ∧ ∃ xs : List (List Key × Addr × Value),
      Paired (fun (p : List Key × V) (q : List Key × Addr × Value) => p.1 = q.1 ∧ H q.2.1 = some (.tup (p.1.map kV)) ∧ RelV p.2 q.2.2) kvs xs ∧
      ∃ o es ep, h.get? a = some o ∧ o.ExactDict ∧ o.data = .dict es ep ∧ es.toList = xs.map (entryOfKey (tupleKind (mixKind P w))) ∧ (xs.map (·.1)).Nodup
  | .set S n => h.SetOf (intKind P w) a S n
  | .ins C dx fs => H dx = some (.own a) ∧ fs.length ≤ 1000 ∧ dx ≠ a ∧ h.get? a = some (PySem.W.instObj C dx) ∧
      ∃ mA, h.Ns1 dx mA ∧ (∀ f, RelO (fs.lookup f) (mA f)) ∧ PySem.Within mA (fs.map (·.1))
  | .own _ => ∃ o, h.get? a = some o
  | .xd fs => ∃ mA, h.Ns1 a mA ∧ ∀ f, RelO (fs.lookup f) (mA f)
  | .rng lo hi => ∃ t u v, h.get? a = some { cls := .type "range", data := .fields #[.int lo t, .int hi u, .int 1 v] }
  | .frz o u => h.get? a = some o ∧ ObjOk H h a u
  | .tbl ps => h.get? a = some { cls := .none, data := .fields ps }
  | .met f x => h.get? a = some (PySem.W.methodObj (.ref f) (.ref x))
  | .ext φ => φ h ∧ (∃ o, h.get? a = some o) ∧ ∀ h1 h2 : Heap, φ h1 → (∀ o, h1.get? a = some o → h2.get? a = some o) → φ h2
def HOk (H : Hp) (h : Heap) : Prop := ∀ a o, H a = some o → ObjOk P w H h a o
end
section
variable {P : Program} {w : World} {H H' : Hp} {h h' : Heap} {a : Addr} {o : HO}
theorem ObjOk.lt (x : ObjOk P w H h a o) : a < h.objs.size := by
  cases o with
  | lst xs => obtain ⟨_, _, _, _, e⟩ := x; exact Heap.lt_size e
  | tup xs => obtain ⟨_, _, _, p⟩ := x; exact p.lt
  | dK kvs => obtain ⟨_, _, _, _, o, _, _, e, _⟩ := x; exact Heap.lt_size e
  | dT kvs => obtain ⟨_, _, _, _, o, _, _, e, _⟩ := x; exact Heap.lt_size e
  | set S n => obtain ⟨o, _, _, _, e, _⟩ := x; exact Heap.lt_size e
  | ins C dx fs => obtain ⟨_, _, _, e, _⟩ := x; exact Heap.lt_size e
  | own y => obtain ⟨_, e⟩ := x; exact Heap.lt_size e
  | xd fs => obtain ⟨_, ⟨_, _, _, e, _⟩, _⟩ := x; exact Heap.lt_size e
  | rng lo hi => obtain ⟨_, _, _, e⟩ := x; exact Heap.lt_size e
  | frz ob u => obtain ⟨e, _⟩ := x; exact Heap.lt_size e
  | tbl ps => exact Heap.lt_size (show h.get? a = some _ from x)
  | met f y => exact Heap.lt_size (show h.get? a = some _ from x)
  | ext φ => obtain ⟨_, ⟨_, e⟩, _⟩ := x; exact Heap.lt_size e
theorem Paired.mapP {α β : Type} {F G : α → β → Prop} : ∀ {l₁ : List α} {l₂ : List β}, Paired F l₁ l₂ → (∀ a b, F a b → G a b) → Paired G l₁ l₂
  | _, _, .nil, _ => .nil
  | _, _, .cons r t, f => .cons (f _ _ r) (Paired.mapP t f)
theorem ObjOk.stay (x : ObjOk P w H h a o) (k : ∀ b u, (b = a ∨ H b = some (.own a)) → h.get? b = some u → h'.get? b = some u)
    (ho : ∀ b, H b = some (.own a) → H' b = some (.own a)) (ht : ∀ b xs, H b = some (.tup xs) → H' b = some (.tup xs)) : ObjOk P w H' h' a o := by
  induction o with
  | lst xs => obtain ⟨z, its, n, r, e⟩ := x; exact ⟨z, its, n, r, k _ _ (.inl rfl) e⟩
  | tup xs => obtain ⟨⟨z, od, ed, hd⟩, its, r, ob, e, c⟩ := x; exact ⟨⟨z, od, k _ _ (.inl rfl) ed, hd⟩, its, r, ob, k _ _ (.inl rfl) e, c⟩
  | dK kvs => obtain ⟨z, y, vs, r, ob, es, ep, e, c⟩ := x; exact ⟨z, y, vs, r, ob, es, ep, k _ _ (.inl rfl) e, c⟩
  | dT kvs =>
    obtain ⟨z, y, xs, r, ob, es, ep, e, c⟩ := x
    exact ⟨z, y, xs, Paired.mapP r fun p q z => ⟨z.1, ht _ _ z.2.1, z.2.2⟩, ob, es, ep, k _ _ (.inl rfl) e, c⟩
  | set S n => obtain ⟨ob, es, ep, t, e, c⟩ := x; exact ⟨ob, es, ep, t, k _ _ (.inl rfl) e, c⟩
  | ins C dx fs =>
    obtain ⟨d, z, ne, e, mA, ⟨od, es, ep, e2, c⟩, r⟩ := x
    exact ⟨ho _ d, z, ne, k _ _ (.inl rfl) e, mA, ⟨od, es, ep, k _ _ (.inr d) e2, c⟩, r⟩
  | own y => obtain ⟨ob, e⟩ := x; exact ⟨ob, k _ _ (.inl rfl) e⟩
  | xd fs => obtain ⟨mA, ⟨od, es, ep, e, c⟩, r⟩ := x; exact ⟨mA, ⟨od, es, ep, k _ _ (.inl rfl) e, c⟩, r⟩
  | rng lo hi => obtain ⟨t, u, v, e⟩ := x; exact ⟨t, u, v, k _ _ (.inl rfl) e⟩
  | frz ob u ih => obtain ⟨e, q⟩ := x; exact ⟨k _ _ (.inl rfl) e, ih q⟩
  | tbl ps =>
    have e : h.get? a = some { cls := .none, data := .fields ps } := x
    show h'.get? a = some { cls := .none, data := .fields ps }
    exact k a _ (.inl rfl) e
  | met f y =>
    have e : h.get? a = some (PySem.W.methodObj (.ref f) (.ref y)) := x
    show h'.get? a = some (PySem.W.methodObj (.ref f) (.ref y))
    exact k a _ (.inl rfl) e
  | ext φ => obtain ⟨p, ⟨o, e⟩, st⟩ := x; exact ⟨st _ _ p fun o q => k _ _ (.inl rfl) q, ⟨o, k _ _ (.inl rfl) e⟩, st⟩
theorem HOk.lt (x : HOk P w H h) (e : H a = some o) : a < h.objs.size := (x a o e).lt
theorem HOk.fresh (x : HOk P w H h) (e : h.objs.size ≤ a) : H a = none := by
  cases q : H a with
  | none => rfl
  | some u => exact absurd (Nat.lt_of_lt_of_le (x.lt q) e) (Nat.lt_irrefl _)
theorem HOk.kept (x : HOk P w H h) (k : ∀ b u, h.get? b = some u → h'.get? b = some u) : HOk P w H h' := fun a o e =>
  (x a o e).stay (fun b u _ q => k b u q) (fun _ q => q) fun _ _ q => q
theorem HOk.laid (x : HOk P w H h) (k : ∀ b u, h.get? b = some u → h'.get? b = some u) (hp : h.objs.size ≤ a) (new : ObjOk P w (upd H a o) h' a o) : HOk P w (upd H a o) h' := fun b u e => by
  have hn := x.fresh hp
  by_cases hb : b = a
  · subst hb; rw [upd_same] at e; cases e; exact new
  · rw [upd_ne hb] at e
    exact (x b u e).stay (fun c v _ q => k c v q) (fun c q => by rw [upd_ne (ne_of_none q hn)]; exact q) fun c xs q => by rw [upd_ne (ne_of_none q hn)]; exact q
end
def Rd (H : Hp) (a : Addr) (u : HO) : Prop := H a = some u ∨ ∃ o, H a = some (.frz o u)
theorem Rd.ok {P : Program} {w : World} {H : Hp} {h : Heap} {a : Addr} {u : HO} (r : Rd H a u) (x : HOk P w H h) : ObjOk P w H h a u := by
  rcases r with r | ⟨o, r⟩
  · exact x a u r
  · obtain ⟨_, q⟩ := x a _ r
    exact q
def Mut : Option HO → Prop
  | some (.lst _) => True
  | some (.dK _) => True
  | some (.dT _) => True
  | some (.set _ _) => True
  | some (.ins _ _ _) => True
  | some (.ext _) => True
  | _ => False
section
variable {P : Program} {w : World} {H : Hp} {h h' : Heap} {x e : Addr} {o' : HO}
theorem HOk.write (ok : HOk P w H h) (mu : Mut (H x)) (he : e = x ∨ H e = some (.own x)) (k : ∀ b u, b ≠ e → h.get? b = some u → h'.get? b = some u) (heo : ∃ u, h'.get? e = some u)
    (new : ObjOk P w (upd H x o') h' x o') : HOk P w (upd H x o') h' := fun b u q => by
  have nown : ∀ c y, H c = some (.own y) → c ≠ x := fun c y r z => by subst z; rw [r] at mu; exact mu
  have ntup : ∀ c xs, H c = some (.tup xs) → c ≠ x := fun c xs r z => by subst z; rw [r] at mu; exact mu
  by_cases hb : b = x
  · subst hb; rw [upd_same] at q; cases q; exact new
  · rw [upd_ne hb] at q
    by_cases hbe : b = e
    · have q' : H b = some (.own x) := by
        rcases he with z | z
        · exact absurd (hbe.trans z) hb
        · rw [hbe]; exact z
      rw [q] at q'; cases q'
      obtain ⟨v, hv⟩ := heo
      exact ⟨v, by rw [hbe]; exact hv⟩
    · refine (ok b u q).stay (fun c v hc r => k c v ?_ r) (fun c r => by rw [upd_ne (nown c b r)]; exact r) fun c xs r => by rw [upd_ne (ntup c xs r)]; exact r
      rcases hc with rfl | hc
      · exact hbe
      · rintro rfl
        rcases he with z | z
        · exact nown c b hc z
        · rw [hc] at z; cases z; exact hb rfl
end
structure Un (fs ex : List Addr) (H H' : Hp) (h h' : Heap) : Prop where
  keep : ∀ b o, h.get? b = some o → H b = none → b ∉ fs → b ∉ ex → h'.get? b = some o
  slot : ∀ b o, h.get? b = some o → H b = none → b ∈ fs → b ∉ ex → ∃ sl, h'.get? b = some { o with slots := sl }
  free : ∀ b o, h.get? b = some o → H b = none → b ∉ ex → H' b = none
  there : ∀ b o, h.get? b = some o → b ∉ ex → ∃ o', h'.get? b = some o'
  tups : ∀ b xs, H b = some (.tup xs) → H' b = some (.tup xs)
  frzs : ∀ b o u, H b = some (.frz o u) → H' b = some (.frz o u)
  tbls : ∀ b ps, H b = some (.tbl ps) → ∃ more, H' b = some (.tbl (ps ++ more))
section
variable {fs fs' ex ex' : List Addr} {H H1 H2 : Hp} {h h1 h2 h' : Heap} {a x e : Addr} {o : HO}
theorem Un.any (u : Un fs ex H H1 h h1) {b : Addr} {ob : Obj} (q : h.get? b = some ob) (n : H b = none) (hx : b ∉ ex) : ∃ sl, h1.get? b = some { ob with slots := sl } := by
  by_cases hb : b ∈ fs
  · exact u.slot b ob q n hb hx
  · exact ⟨ob.slots, u.keep b ob q n hb hx⟩
theorem Un.kept (k : ∀ b u, h.get? b = some u → h'.get? b = some u) : Un fs ex H H h h' :=
  ⟨fun b ob q _ _ _ => k b ob q, fun b ob q _ _ _ => ⟨ob.slots, k b ob q⟩, fun _ _ _ n _ => n, fun b ob q _ => ⟨ob, k b ob q⟩, fun _ _ q => q, fun _ _ _ q => q, fun _ ps q => ⟨#[], by rw [q]; simp⟩⟩
theorem Un.refl : Un fs ex H H h h := Un.kept fun _ _ q => q
theorem Un.laid (k : ∀ b u, h.get? b = some u → h'.get? b = some u) (hp : h.objs.size ≤ a) (hn : H a = none) : Un fs ex H (upd H a o) h h' where
  keep := fun b u q _ _ _ => k b u q
  slot := fun b u q _ _ _ => ⟨u.slots, k b u q⟩
  free := fun b u q n _ => by rw [upd_ne (Nat.ne_of_lt (Nat.lt_of_lt_of_le (Heap.lt_size q) hp))]; exact n
  there := fun b u q _ => ⟨u, k b u q⟩
  tups := fun b xs q => by rw [upd_ne (ne_of_none q hn)]; exact q
  frzs := fun b u xs q => by rw [upd_ne (ne_of_none q hn)]; exact q
  tbls := fun b ps q => ⟨#[], by rw [upd_ne (ne_of_none q hn), q]; simp⟩
theorem Un.write (mu : Mut (H x)) (he : e = x ∨ H e = some (.own x)) (k : ∀ b u, b ≠ e → h.get? b = some u → h'.get? b = some u) (heo : ∃ u, h'.get? e = some u) : Un fs ex H (upd H x o) h h' := by
  have hx : ∀ b, H b = none → b ≠ x := fun b n z => by subst z; rw [n] at mu; exact mu
  have hb : ∀ b, H b = none → b ≠ e := fun b n z => by
    subst z
    rcases he with r | r
    · exact hx b n r
    · rw [n] at r; cases r
  have hm : ∀ b u, H b = some u → ¬ Mut (some u) → b ≠ x := fun b u q nm z => by subst z; rw [q] at mu; exact nm mu
  refine ⟨fun b u q n _ _ => k b u (hb b n) q, fun b u q n _ _ => ⟨u.slots, k b u (hb b n) q⟩, fun b u q n _ => by rw [upd_ne (hx b n)]; exact n, fun b u q _ => ?_,
    fun b xs q => by rw [upd_ne (hm b _ q fun z => z)]; exact q, fun b u xs q => by rw [upd_ne (hm b _ q fun z => z)]; exact q, fun b ps q => ⟨#[], by rw [upd_ne (hm b _ q fun z => z), q]; simp⟩⟩
  by_cases hbe : b = e
  · subst hbe; exact heo
  · exact ⟨u, k b u hbe q⟩
end
def trk (h : Heap) (H : Hp) : List Addr := (List.range h.objs.size).filter fun a => (H a).isSome
def hidT (h : Heap) (H : Hp) : Heap := PySem.W.hideAll h (trk h H)
theorem hidT_size (h : Heap) (H : Hp) : (hidT h H).objs.size = h.objs.size := PySem.W.hideAll_size _ _
theorem hidT_get {h : Heap} {H : Hp} {b : Addr} {o : Obj} (e : h.get? b = some o) (n : H b = none) : (hidT h H).get? b = some o :=
  PySem.W.hideAll_get _ e fun hm => by
    have q : (H b).isSome = true := (List.mem_filter.mp hm).2
    rw [n] at q; simp at q
theorem of_hidT {h : Heap} {H : Hp} {b : Addr} {o : Obj} (e : (hidT h H).get? b = some o) : h.get? b = some o ∧ H b = none := by
  have e' : h.get? b = some o := PySem.W.of_hideAll (trk h H) e
  refine ⟨e', ?_⟩
  cases q : H b with
  | none => rfl
  | some x =>
    have hm : b ∈ trk h H := List.mem_filter.mpr ⟨List.mem_range.mpr (Heap.lt_size e'), by simp [q]⟩
    have z : (hidT h H).get? b = none := PySem.W.hideAll_none (trk h H) hm
    rw [z] at e; cases e
end L2
namespace L2
open PySem PySem.Spec PyProof.Rows
structure Mod (K : PySem.W.Frag) (mg : Str → Option Value) (base : Heap) : Prop where
  kin : K.In base
  glob : base.Ns mainGlobals mg
  blt : ∃ mb, base.Ns builtinsNs mb ∧ ∀ x : Str, x ≠ "__name__" → mb x = bootBuiltins x
  nolimit : base.NoLimit
structure Cx where
  prog : Program
  w : World
  K : PySem.W.Frag
  mg : Str → Option Value
  base : Heap
  A : Around
  N : List Str
  s₀ : Shared
  H₀ : Hp
  env : Env
  outer : List Env
  stack : List Env
  ex : List Addr
  fn : Str → Bool
  calm : Bool
  pn : List (Addr × Obj)
  xe : Value → Shared → Prop
def frs (l : List Env) : List Addr := l.filterMap (·.frame)
abbrev Cx.fs (X : Cx) : List Addr := frs X.outer
def Vis (sc : Scope) (x : Str) : Prop := sc.names.lookup x = some .local ∨ sc.names.lookup x = some .cell ∨ sc.names.lookup x = some .free
def Loc (sc : Scope) (x : Str) : Prop := sc.names.lookup x = some .local ∨ sc.names.lookup x = some .cell
def Look (env : Env) (h : Heap) (m : Str → Option Value) (x : Str) (u : Value) : Prop :=
  (env.kindOf x = some .local ∧ m x = some u) ∨ ((env.kindOf x = some .cell ∨ env.kindOf x = some .free) ∧ ∃ c, env.cells.lookup x = some c ∧ h.IsCell c (some u))
structure Cx.Ok (X : Cx) : Prop where
  mod : Mod X.K X.mg X.base
  kind : X.env.scope.kind = .function
  glob : X.env.globals = mainGlobals
  blt : X.env.builtins = builtinsNs
  above : X.s₀.heap.objs.size ≤ X.env.locals
  inj : ∀ x y c, X.env.cells.lookup x = some c → X.env.cells.lookup y = some c → x = y
  has : ∀ x, (X.env.kindOf x = some .cell ∨ X.env.kindOf x = some .free) → ∃ c, X.env.cells.lookup x = some c
  cab : ∀ x c, X.fn x = true → X.env.cells.lookup x = some c → X.s₀.heap.objs.size ≤ c
  hd : X.calm = true → X.A.handled = none
  frames : X.A.frames = some X.stack
  stk : X.stack = X.outer ∨ (X.stack = X.env :: X.outer ∧ X.env.frame = some X.env.locals)
  exf : ∀ b ∈ X.ex, b ≠ X.env.locals ∧ ∀ x c, X.env.cells.lookup x = some c → c ≠ b
  bs : ∀ b o, X.base.get? b = some o → X.s₀.heap.get? b = some o ∧ X.H₀ b = none
  bsz : X.base.objs.size ≤ X.s₀.heap.objs.size
  noex : ∀ b o, X.base.get? b = some o → b ∉ X.ex
  exfs : ∀ b ∈ X.ex, b ∉ X.fs
  funs : X.s₀.heap.FunFrames X.base X.outer
  frf : ∀ b ∈ X.fs, X.H₀ b = none
structure Inv (X : Cx) (pins : List (Addr × Obj)) (σ : List (Option V)) (H : Hp) (s : Shared) : Prop where
  ok : X.Ok
  os : s.os = X.s₀.os
  bare : AllBare s.gens
  base : Un X.fs X.ex X.H₀ H X.s₀.heap s.heap
  loc : ∃ m, s.heap.Ns X.env.locals m ∧ ∀ (i : Nat) (x : Str) (v : V), X.N[i]? = some x → σ[i]? = some (some v) → Vis X.env.scope x → ∃ u, RelV v u ∧ Look X.env s.heap m x u
  cell : ∀ x c, X.env.cells.lookup x = some c → ∃ v, s.heap.IsCell c v
  free : H X.env.locals = none
  freeC : ∀ x c, X.env.cells.lookup x = some c → H c = none
  pin : ∀ p ∈ X.pn ++ pins, s.heap.get? p.1 = some p.2 ∧ H p.1 = none ∧ p.1 ≠ X.env.locals ∧ p.1 ∉ X.fs ∧ ∀ v, p.2.data ≠ .cell v
  hok : HOk X.prog X.w H s.heap
  len : σ.length = X.N.length
section
variable {X : Cx} {pins : List (Addr × Obj)} {σ : List (Option V)} {H H' : Hp} {s : Shared} {h' : Heap}
theorem Cx.Ok.nofr (ok : X.Ok) {b : Addr} {o : Obj} (e : X.base.get? b = some o) : b ∉ X.fs := fun hb => by
  have := (ok.funs.mem hb).1
  rw [e] at this; cases this
theorem Inv.bs (I : Inv X pins σ H s) : ∀ b o, X.base.get? b = some o → s.heap.get? b = some o ∧ H b = none := fun b o e =>
  ⟨I.base.keep b o (I.ok.bs b o e).1 (I.ok.bs b o e).2 (I.ok.nofr e) (I.ok.noex b o e), I.base.free b o (I.ok.bs b o e).1 (I.ok.bs b o e).2 (I.ok.noex b o e)⟩
theorem Inv.bk (I : Inv X pins σ H s) : ∀ b o, X.base.get? b = some o → s.heap.get? b = some o := fun b o e => (I.bs b o e).1
theorem Inv.mod (I : Inv X pins σ H s) : Mod X.K X.mg X.base := I.ok.mod
theorem Inv.kIn (I : Inv X pins σ H s) : X.K.In s.heap := I.ok.mod.kin.keeps I.bk
theorem Inv.lt (I : Inv X pins σ H s) : X.env.locals < s.heap.objs.size := let ⟨_, hn, _⟩ := I.loc; hn.lt
theorem Inv.sz (I : Inv X pins σ H s) : X.s₀.heap.objs.size ≤ s.heap.objs.size := Nat.le_trans I.ok.above (Nat.le_of_lt I.lt)
theorem Inv.nofs (I : Inv X pins σ H s) {a : Addr} (h : s.heap.objs.size ≤ a) : a ∉ X.fs := fun hb => by
  obtain ⟨_, o, ho, _⟩ := I.ok.funs.mem hb
  exact absurd (Nat.lt_of_lt_of_le (Heap.lt_size ho) (Nat.le_trans I.sz h)) (Nat.lt_irrefl _)
theorem Inv.cne (I : Inv X pins σ H s) : ∀ x c, X.env.cells.lookup x = some c → c ≠ X.env.locals := fun x c e z => by
  obtain ⟨v, o, ho, hd⟩ := I.cell x c e
  obtain ⟨m, ⟨o', es, ep, ho', hd', _⟩, _⟩ := I.loc
  rw [z, ho'] at ho; cases ho; rw [hd'] at hd; cases hd
theorem Inv.funs (I : Inv X pins σ H s) : s.heap.FunFrames X.base X.outer := by
  have all : ∀ (l : List Env), (∀ b ∈ frs l, b ∈ X.fs) → X.s₀.heap.FunFrames X.base l → s.heap.FunFrames X.base l := by
    intro l
    induction l with
    | nil => intro _ _; trivial
    | cons env r ih =>
      intro hs hl
      obtain ⟨hk, ⟨L, o, hf, hn, ho, hd⟩, hr⟩ := hl
      have hL : L ∈ X.fs := hs L (by unfold frs; rw [List.filterMap_cons, hf]; exact List.mem_cons_self)
      obtain ⟨sl, e⟩ := I.base.slot L o ho (I.ok.frf L hL) hL fun z => I.ok.exfs L z hL
      exact ⟨hk, ⟨L, _, hf, hn, e, hd⟩, ih (fun b hb => hs b (by unfold frs; rw [List.filterMap_cons, hf]; exact List.mem_cons_of_mem _ hb)) hr⟩
  exact all X.outer (fun _ hb => hb) I.ok.funs
theorem Inv.stack (I : Inv X pins σ H s) : s.heap.FunFrames X.base X.stack := by
  rcases I.ok.stk with e | ⟨e, hf⟩
  · rw [e]; exact I.funs
  · rw [e]
    obtain ⟨m, hn, _⟩ := I.loc
    refine .cons (by rw [I.ok.kind]; decide) hf hn ?_ I.funs
    exact Heap.get?_none_of_le (Nat.le_trans I.ok.bsz I.ok.above)
theorem Inv.stkSub (I : Inv X pins σ H s) : ∀ b ∈ frs X.stack, b ∈ X.env.locals :: X.fs := fun b hb => by
  rcases I.ok.stk with e | ⟨e, hf⟩
  · rw [e] at hb; exact List.mem_cons_of_mem _ hb
  · rw [e] at hb
    unfold frs at hb
    rw [List.filterMap_cons, hf] at hb
    exact hb
theorem Inv.stkFree (I : Inv X pins σ H s) : ∀ b ∈ frs X.stack, H b = none := fun b hb => by
  rcases List.mem_cons.mp (I.stkSub b hb) with e | hb
  · rw [e]; exact I.free
  · obtain ⟨_, o, ho, _⟩ := I.ok.funs.mem hb
    exact I.base.free b o ho (I.ok.frf b hb) fun z => I.ok.exfs b z hb
theorem Inv.step {g' : Array GenState} {t' : Nat} {d' : Drawn} {ch : List Addr} (I : Inv X pins σ H s)
    (hch : ∀ b ∈ ch, (b ∈ X.ex ∨ X.s₀.heap.objs.size ≤ b) ∧ b ≠ X.env.locals ∧ (∀ x c, X.env.cells.lookup x = some c → c ≠ b) ∧ ∀ p ∈ X.pn ++ pins, p.1 ≠ b)
    (keep : ∀ b o, b ≠ X.env.locals → b ∉ X.fs → b ∉ ch → s.heap.get? b = some o → H b = none → h'.get? b = some o)
    (slot : ∀ b o, b ≠ X.env.locals → b ∈ X.fs → b ∉ ch → s.heap.get? b = some o → H b = none → ∃ sl, h'.get? b = some { o with slots := sl }) (free : ∀ b o, b ∉ ch → s.heap.get? b = some o → H b = none → H' b = none)
    (there : ∀ b o, b ∉ ch → s.heap.get? b = some o → ∃ o', h'.get? b = some o')
    (tups : ∀ b xs, H b = some (.tup xs) → H' b = some (.tup xs)) (frzs : ∀ b o u, H b = some (.frz o u) → H' b = some (.frz o u)) (tbls : ∀ b ps, H b = some (.tbl ps) → ∃ more, H' b = some (.tbl (ps ++ more)))
    (ns : ∀ m, s.heap.Ns X.env.locals m → h'.Ns X.env.locals m) (hok : HOk X.prog X.w H' h') (hg : AllBare g') :
    Inv X pins σ H' { s with heap := h', gens := g', drawn := d', toks := t' } := by
  have neL : ∀ b o, X.s₀.heap.get? b = some o → b ≠ X.env.locals := fun b o e => Nat.ne_of_lt (Nat.lt_of_lt_of_le (Heap.lt_size e) I.ok.above)
  have neC : ∀ b o, X.s₀.heap.get? b = some o → b ∉ X.ex → b ∉ ch := fun b o e hx hb => by
    rcases (hch b hb).1 with z | z
    · exact hx z
    · exact absurd (Nat.lt_of_lt_of_le (Heap.lt_size e) z) (Nat.lt_irrefl _)
  have cellK : ∀ x c, X.env.cells.lookup x = some c → ∀ v, s.heap.IsCell c v → h'.IsCell c v := fun x c e v ⟨o, ho, hd⟩ => by
    have nch : c ∉ ch := fun z => (hch c z).2.2.1 x c e rfl
    by_cases hc : c ∈ X.fs
    · obtain ⟨sl, q⟩ := slot c o (I.cne x c e) hc nch ho (I.freeC x c e)
      exact ⟨_, q, hd⟩
    · exact ⟨o, keep c o (I.cne x c e) hc nch ho (I.freeC x c e), hd⟩
  refine ⟨I.ok, I.os, hg, ⟨fun b o e n hb hx => ?_, fun b o e n hb hx => ?_, fun b o e n hx => ?_, fun b o e hx => ?_, fun b xs e => tups b xs (I.base.tups b xs e), fun b o xs e => frzs b o xs (I.base.frzs b o xs e), fun b ps e => ?_⟩, ?_, fun x c e => ?_, ?_, fun x c e => ?_, fun p hp => ?_, hok, I.len⟩
  · exact keep b o (neL b o e) hb (neC b o e hx) (I.base.keep b o e n hb hx) (I.base.free b o e n hx)
  · obtain ⟨sl, e1⟩ := I.base.slot b o e n hb hx
    obtain ⟨sl', e2⟩ := slot b _ (neL b o e) hb (neC b o e hx) e1 (I.base.free b o e n hx)
    exact ⟨sl', e2⟩
  · obtain ⟨o', e1⟩ := I.base.there b o e hx
    exact free b o' (neC b o e hx) e1 (I.base.free b o e n hx)
  · obtain ⟨o', e1⟩ := I.base.there b o e hx
    exact there b o' (neC b o e hx) e1
  · obtain ⟨m1, e1⟩ := I.base.tbls b ps e
    obtain ⟨m2, e2⟩ := tbls b _ e1
    exact ⟨m1 ++ m2, by rw [e2, Array.append_assoc]⟩
  · obtain ⟨m, hn, hl⟩ := I.loc
    refine ⟨m, ns m hn, fun i x v e1 e2 e3 => ?_⟩
    obtain ⟨u, r, l⟩ := hl i x v e1 e2 e3
    refine ⟨u, r, ?_⟩
    rcases l with l | ⟨k, c, e, z⟩
    · exact .inl l
    · exact .inr ⟨k, c, e, cellK x c e _ z⟩
  · obtain ⟨v, z⟩ := I.cell x c e
    exact ⟨v, cellK x c e v z⟩
  · obtain ⟨m, ⟨o, _, _, ho, _⟩, _⟩ := I.loc
    exact free _ o (fun z => (hch _ z).2.1 rfl) ho I.free
  · obtain ⟨v, o, ho, hd⟩ := I.cell x c e
    exact free c o (fun z => (hch c z).2.2.1 x c e rfl) ho (I.freeC x c e)
  · obtain ⟨e, n, ne, nf, d⟩ := I.pin p hp
    have nch : p.1 ∉ ch := fun z => (hch p.1 z).2.2.2 p hp rfl
    exact ⟨keep p.1 p.2 ne nf nch e n, free p.1 p.2 nch e n, ne, nf, d⟩
theorem Inv.un {t' : Nat} (I : Inv X pins σ H s) (u : Un X.fs [] H H' s.heap h') (hok : HOk X.prog X.w H' h') : Inv X pins σ H' { s with heap := h', toks := t' } := by
  obtain ⟨m, ⟨o, es, ep, ho, r⟩, _⟩ := id I.loc
  obtain ⟨sl, hL⟩ := u.any ho I.free (by simp)
  exact I.step (g' := s.gens) (d' := s.drawn) (ch := []) (fun _ z => nomatch z) (fun b o _ hb _ e n => u.keep b o e n hb (by simp)) (fun b o _ hb _ e n => u.slot b o e n hb (by simp)) (fun b o _ e n => u.free b o e n (by simp)) (fun b o _ e => u.there b o e (by simp)) u.tups u.frzs u.tbls (fun m' hm => by
    obtain ⟨o', es', ep', ho', r'⟩ := hm
    rw [ho] at ho'; cases ho'
    exact ⟨_, es', ep', hL, r'⟩) hok I.bare
theorem Inv.call {g' : Array GenState} {t' : Nat} {d' : Drawn} {ch : List Addr} (I : Inv X pins σ H s) (u : Un (frs X.stack) ch H H' s.heap h') (hok : HOk X.prog X.w H' h') (hg : AllBare g')
    (hch : ∀ b ∈ ch, (b ∈ X.ex ∨ X.s₀.heap.objs.size ≤ b) ∧ b ≠ X.env.locals ∧ (∀ x c, X.env.cells.lookup x = some c → c ≠ b) ∧ ∀ p ∈ X.pn ++ pins, p.1 ≠ b) :
    Inv X pins σ H' { s with heap := h', gens := g', drawn := d', toks := t' } := by
  obtain ⟨m, ⟨o, es, ep, ho, r⟩, _⟩ := id I.loc
  obtain ⟨sl, hL⟩ := u.any ho I.free fun z => (hch _ z).2.1 rfl
  exact I.step (ch := ch) hch (fun b o hL hb hc e n => u.keep b o e n (fun z => (List.mem_cons.mp (I.stkSub b z)).elim hL hb) hc) (fun b o _ _ hc e n => u.any e n hc) (fun b o hc e n => u.free b o e n hc) (fun b o hc e => u.there b o e hc) u.tups u.frzs u.tbls (fun m' hm => by
    obtain ⟨o', es', ep', ho', r'⟩ := hm
    rw [ho] at ho'; cases ho'
    exact ⟨_, es', ep', hL, r'⟩) hok hg
theorem Inv.turned {t' : Nat} {it : Addr} (I : Inv X pins σ H s) (k : ∀ b o, b ≠ it → s.heap.get? b = some o → h'.get? b = some o) (hn : H it = none) (hL : it ≠ X.env.locals)
    (h1 : it ∈ X.ex ∨ X.s₀.heap.objs.size ≤ it) (h2 : ∀ x c, X.env.cells.lookup x = some c → c ≠ it) (h3 : ∀ p ∈ X.pn ++ pins, p.1 ≠ it) : Inv X pins σ H { s with heap := h', toks := t' } := by
  have nit : ∀ b u, H b = some u → b ≠ it := fun b u e z => by rw [z, hn] at e; cases e
  refine I.step (g' := s.gens) (d' := s.drawn) (ch := [it]) (fun b hb => ?_) (fun b o _ _ hc e _ => k b o (fun z => hc (by simp [z])) e) (fun b o _ _ hc e _ => ⟨o.slots, k b o (fun z => hc (by simp [z])) e⟩) (fun _ _ _ _ n => n)
    (fun b o hc e => ⟨o, k b o (fun z => hc (by simp [z])) e⟩) (fun _ _ e => e) (fun _ _ _ e => e) (fun b ps e => ⟨#[], by rw [e]; simp⟩) (fun m hm => ?_) (fun b u e => ?_) I.bare
  · have e : b = it := by simpa using hb
    subst e
    exact ⟨h1, hL, h2, h3⟩
  · obtain ⟨o, es, ep, ho, r⟩ := hm
    exact ⟨o, es, ep, k _ o (Ne.symm hL) ho, r⟩
  · refine (I.hok b u e).stay (fun c v hc q => k c v ?_ q) (fun _ q => q) fun _ _ q => q
    rcases hc with z | z
    · rw [z]; exact nit b u e
    · exact nit c _ z
theorem Inv.tok (I : Inv X pins σ H s) (t : Nat) : Inv X pins σ H { s with toks := t } := I.un (h' := s.heap) (t' := t) Un.refl I.hok
theorem Inv.kept {t' : Nat} (I : Inv X pins σ H s) (k : ∀ b u, s.heap.get? b = some u → h'.get? b = some u) : Inv X pins σ H { s with heap := h', toks := t' } := I.un (Un.kept k) (I.hok.kept k)
theorem Inv.laid {a : Addr} {o : HO} {t' : Nat} (I : Inv X pins σ H s) (k : ∀ b u, s.heap.get? b = some u → h'.get? b = some u) (hp : s.heap.objs.size ≤ a) (new : ObjOk X.prog X.w (upd H a o) h' a o) :
    Inv X pins σ (upd H a o) { s with heap := h', toks := t' } := I.un (Un.laid k hp (I.hok.fresh hp)) (I.hok.laid k hp new)
theorem Inv.write {x e : Addr} {o : HO} {t' : Nat} (I : Inv X pins σ H s) (mu : Mut (H x)) (he : e = x ∨ H e = some (.own x)) (k : ∀ b u, b ≠ e → s.heap.get? b = some u → h'.get? b = some u) (heo : ∃ u, h'.get? e = some u)
    (new : ObjOk X.prog X.w (upd H x o) h' x o) : Inv X pins σ (upd H x o) { s with heap := h', toks := t' } := I.un (Un.write mu he k heo) (I.hok.write mu he k heo new)
theorem Inv.weak {σ' : List (Option V)} (I : Inv X pins σ H s) (hl : σ'.length = σ.length) (w : ∀ (i : Nat) v, σ'[i]? = some (some v) → σ[i]? = some (some v)) : Inv X pins σ' H s :=
  ⟨I.ok, I.os, I.bare, I.base, let ⟨m, hn, hl'⟩ := I.loc; ⟨m, hn, fun i x v e1 e2 e3 => hl' i x v e1 (w i v e2) e3⟩, I.cell, I.free, I.freeC, I.pin, I.hok, hl.trans I.len⟩
theorem Inv.pins_of {pins' : List (Addr × Obj)} (I : Inv X pins σ H s) (h : ∀ p ∈ pins', s.heap.get? p.1 = some p.2 ∧ H p.1 = none ∧ p.1 ≠ X.env.locals ∧ p.1 ∉ X.fs ∧ ∀ v, p.2.data ≠ .cell v) : Inv X pins' σ H s :=
  ⟨I.ok, I.os, I.bare, I.base, I.loc, I.cell, I.free, I.freeC, fun p hp => (List.mem_append.mp hp).elim (fun z => I.pin p (List.mem_append_left _ z)) (h p), I.hok, I.len⟩
theorem nodup_ix {N : List Str} (hN : N.Nodup) {i j : Nat} {x : Str} (a : N[i]? = some x) (b : N[j]? = some x) : i = j := by
  obtain ⟨h1, e1⟩ := List.getElem?_eq_some_iff.mp a
  obtain ⟨h2, e2⟩ := List.getElem?_eq_some_iff.mp b
  exact (List.getElem_inj hN).mp (e1.trans e2.symm)
theorem store_ok2 {M : Model} {A : Around} {E : Value → Shared → Prop} {i : Nat} {x : Str} {v : V} {u : Value} {Q : Unit → Shared → Prop} (I : Inv X pins σ H s) (hN : X.N.Nodup) (hi : X.N[i]? = some x) (hx : Loc X.env.scope x) (r : RelV v u)
    (h : ∀ s', Inv X pins (σ.set i (some v)) H s' → (∃ a, Heap.SameBut a s.heap s'.heap ∧ (a = X.env.locals ∨ X.env.cells.lookup x = some a)) → Q () s') (hf : X.fn x = true ∨ X.env.scope.names.lookup x = some .local := by first | exact .inl rfl | exact .inr rfl | assumption) : wpAny M A (storeName X.env x u) Q E s := by
  obtain ⟨m, hn, hl⟩ := id I.loc
  have hcls : (X.env.scope.kind == .class || (X.env.scope.kind == .module && X.env.locals != X.env.globals)) = false := by rw [I.ok.kind]; rfl
  have hiσ : i < σ.length := by rw [I.len]; exact (List.getElem?_eq_some_iff.mp hi).1
  have cne := I.cne
  have tracked : ∀ {a : Addr} {h' : Heap}, (∃ o, s.heap.get? a = some o ∧ H a = none) → Heap.SameBut a s.heap h' → HOk X.prog X.w H h' := fun {a h'} ha hs b ob e => by
    obtain ⟨_, _, hfree⟩ := ha
    refine (I.hok b ob e).stay (fun c w' hc q => (hs.2 c ?_).trans q) (fun _ q => q) fun _ _ q => q
    rintro rfl
    rcases hc with rfl | hc
    · rw [hfree] at e; cases e
    · rw [hfree] at hc; cases hc
  rcases hx with hk | hk
  · refine wpAny_storeName_local hk hn (fun h' hn' hs => ?_) hcls
    obtain ⟨oL, _, _, hoL, _⟩ := id hn
    refine h _ ⟨I.ok, I.os, I.bare, ⟨fun b o e n hb hx => ?_, fun b o e n hb hx => ?_, I.base.free, fun b o e hx => ?_, I.base.tups, I.base.frzs, I.base.tbls⟩, ⟨_, hn', fun j y v' e1 e2 e3 => ?_⟩, fun y c e => ?_, I.free, I.freeC, fun p hp => ?_, tracked ⟨oL, hoL, I.free⟩ hs, by simpa using I.len⟩ ⟨_, hs, .inl rfl⟩
    · exact (hs.2 b (Nat.ne_of_lt (Nat.lt_of_lt_of_le (Heap.lt_size e) I.ok.above))).trans (I.base.keep b o e n hb hx)
    · obtain ⟨sl, e1⟩ := I.base.slot b o e n hb hx
      exact ⟨sl, (hs.2 b (Nat.ne_of_lt (Nat.lt_of_lt_of_le (Heap.lt_size e) I.ok.above))).trans e1⟩
    · obtain ⟨o', e1⟩ := I.base.there b o e hx
      exact ⟨o', (hs.2 b (Nat.ne_of_lt (Nat.lt_of_lt_of_le (Heap.lt_size e) I.ok.above))).trans e1⟩
    · by_cases hj : j = i
      · subst hj
        rw [hi] at e1; cases e1
        rw [List.getElem?_set_self hiσ] at e2
        cases e2
        exact ⟨u, r, .inl ⟨hk, by simp⟩⟩
      · rw [List.getElem?_set_ne (Ne.symm hj)] at e2
        obtain ⟨u', r', q⟩ := hl j y v' e1 e2 e3
        refine ⟨u', r', ?_⟩
        rcases q with ⟨k, e⟩ | ⟨k, c, e, z⟩
        · refine .inl ⟨k, ?_⟩
          have : y ≠ x := fun e => hj (nodup_ix hN e1 (e ▸ hi))
          simp [this, e]
        · exact .inr ⟨k, c, e, z.sameBut hs (cne y c e)⟩
    · obtain ⟨w', z⟩ := I.cell y c e
      exact ⟨w', z.sameBut hs (cne y c e)⟩
    · obtain ⟨e, n, ne, nf, d⟩ := I.pin p hp
      exact ⟨(hs.2 p.1 ne).trans e, n, ne, nf, d⟩
  · have hfn : X.fn x = true := by
      rcases hf with z | z
      · exact z
      · rw [z] at hk; cases hk
    obtain ⟨c, hc⟩ := I.ok.has x (.inl hk)
    obtain ⟨w', z⟩ := I.cell x c hc
    refine wpAny_storeName_cell I.ok.kind hk hc z (fun h' hc' hs => ?_)
    obtain ⟨oc, hoc, hocd⟩ := id z
    refine h { s with heap := h' } ⟨I.ok, I.os, I.bare, ⟨fun b o e n hb hx => ?_, fun b o e n hb hx => ?_, I.base.free, fun b o e hx => ?_, I.base.tups, I.base.frzs, I.base.tbls⟩, ⟨m, hn.sameBut hs (Ne.symm (cne x c hc)), fun j y v' e1 e2 e3 => ?_⟩, fun y c' e => ?_, I.free, I.freeC, fun p hp => ?_, tracked ⟨oc, hoc, I.freeC x c hc⟩ hs, by simpa using I.len⟩ ⟨c, hs, .inr hc⟩
    · exact (hs.2 b (Nat.ne_of_lt (Nat.lt_of_lt_of_le (Heap.lt_size e) (I.ok.cab x c hfn hc)))).trans (I.base.keep b o e n hb hx)
    · obtain ⟨sl, e1⟩ := I.base.slot b o e n hb hx
      exact ⟨sl, (hs.2 b (Nat.ne_of_lt (Nat.lt_of_lt_of_le (Heap.lt_size e) (I.ok.cab x c hfn hc)))).trans e1⟩
    · obtain ⟨o', e1⟩ := I.base.there b o e hx
      exact ⟨o', (hs.2 b (Nat.ne_of_lt (Nat.lt_of_lt_of_le (Heap.lt_size e) (I.ok.cab x c hfn hc)))).trans e1⟩
    · by_cases hj : j = i
      · subst hj
        rw [hi] at e1; cases e1
        rw [List.getElem?_set_self hiσ] at e2
        cases e2
        exact ⟨u, r, .inr ⟨.inl hk, c, hc, hc'⟩⟩
      · rw [List.getElem?_set_ne (Ne.symm hj)] at e2
        obtain ⟨u', r', q⟩ := hl j y v' e1 e2 e3
        refine ⟨u', r', ?_⟩
        rcases q with q | ⟨k, c', e, z'⟩
        · exact .inl q
        · refine .inr ⟨k, c', e, z'.sameBut hs ?_⟩
          rintro rfl
          exact hj (nodup_ix hN e1 (I.ok.inj _ _ _ e hc ▸ hi))
    · by_cases hcc : c' = c
      · subst hcc; exact ⟨_, hc'⟩
      · obtain ⟨w2, z2⟩ := I.cell y c' e
        exact ⟨w2, z2.sameBut hs hcc⟩
    · obtain ⟨e, n, ne, nf, d⟩ := I.pin p hp
      refine ⟨(hs.2 p.1 ?_).trans e, n, ne, nf, d⟩
      intro q
      rw [q, hoc] at e
      have q' : oc = p.2 := Option.some.inj e
      exact d w' (by rw [← q']; exact hocd)
theorem store_ok {M : Model} {A : Around} {E : Value → Shared → Prop} {i : Nat} {x : Str} {v : V} {u : Value} {Q : Unit → Shared → Prop} (I : Inv X pins σ H s) (hN : X.N.Nodup) (hi : X.N[i]? = some x) (hx : Loc X.env.scope x) (r : RelV v u)
    (h : ∀ s', Inv X pins (σ.set i (some v)) H s' → Q () s') (hf : X.fn x = true ∨ X.env.scope.names.lookup x = some .local := by first | exact .inl rfl | exact .inr rfl | assumption) : wpAny M A (storeName X.env x u) Q E s :=
  store_ok2 I hN hi hx r (fun s' I' _ => h s' I') hf
theorem Inv.call' {s' : Shared} {ch : List Addr} (I : Inv X pins σ H s) (ho : s'.os = s.os) (u : Un (frs X.stack) ch H H' s.heap s'.heap) (hok : HOk X.prog X.w H' s'.heap) (hg : AllBare s'.gens)
    (hch : ∀ b ∈ ch, (b ∈ X.ex ∨ X.s₀.heap.objs.size ≤ b) ∧ b ≠ X.env.locals ∧ (∀ x c, X.env.cells.lookup x = some c → c ≠ b) ∧ ∀ p ∈ X.pn ++ pins, p.1 ≠ b) : Inv X pins σ H' s' := by
  obtain ⟨h', g', d', t', o'⟩ := s'
  have e : o' = s.os := ho
  subst e
  exact I.call (g' := g') (t' := t') (d' := d') u hok hg hch
end
abbrev XK := Value → Option Addr → Hp → Prop
abbrev St := List (Option V)
abbrev VK := V → Hp → Prop
abbrev TE := St → Hp → VK → Prop
abbrev TT := St → Hp → (Bool → Hp → Prop) → Prop
abbrev TA := St → Hp → (List V → Hp → Prop) → Prop
structure Ends where
  nx : St → Hp → Prop
  rt : VK
  bk : St → Hp → Prop := fun _ _ => False
  ct : St → Hp → Prop := fun _ _ => False
abbrev TS := Ends → St → Hp → Prop
def EP (X : Cx) (pins : List (Addr × Obj)) (σ : St) (Q : VK) (u : Value) (s' : Shared) : Prop := ∃ v H', Inv X pins σ H' s' ∧ RelV v u ∧ Q v H'
def TP (X : Cx) (pins : List (Addr × Obj)) (σ : St) (Q : Bool → Hp → Prop) (b : Bool) (s' : Shared) : Prop := ∃ H', Inv X pins σ H' s' ∧ Q b H'
def AP (X : Cx) (pins : List (Addr × Obj)) (σ : St) (Q : List V → Hp → Prop) (us : List Value) (s' : Shared) : Prop := ∃ vs H', Inv X pins σ H' s' ∧ Vals vs us ∧ Q vs H'
def SP (X : Cx) (pins : List (Addr × Obj)) (D : Ends) (f : Flow) (s' : Shared) : Prop :=
  match f with
  | .next => ∃ σ' H', Inv X pins σ' H' s' ∧ D.nx σ' H'
  | .brk => ∃ σ' H', Inv X pins σ' H' s' ∧ D.bk σ' H'
  | .cont => ∃ σ' H', Inv X pins σ' H' s' ∧ D.ct σ' H'
  | .ret u => ∃ v σ' H', Inv X pins σ' H' s' ∧ RelV v u ∧ D.rt v H'
def PE (X : Cx) (e : Expr) (t : TE) : Prop :=
  ∀ (pins : List (Addr × Obj)) (s : Shared) (σ : St) (H : Hp) (Q : VK), Inv X pins σ H s → t σ H Q → wpAny (model X.prog X.w) X.A (eval e X.env) (EP X pins σ Q) X.xe s
def PT (X : Cx) (e : Expr) (t : TT) : Prop :=
  ∀ (pins : List (Addr × Obj)) (s : Shared) (σ : St) (H : Hp) (Q : Bool → Hp → Prop), Inv X pins σ H s → t σ H Q → wpAny (model X.prog X.w) X.A (isTrue e X.env (eval e X.env)) (TP X pins σ Q) X.xe s
def PW (X : Cx) (e : Expr) (t : TT) : Prop :=
  ∀ (whole : Sem Value) (pins : List (Addr × Obj)) (s : Shared) (σ : St) (H : Hp) (Q : Bool → Hp → Prop), Inv X pins σ H s → t σ H Q → wpAny (model X.prog X.w) X.A (isTrue e X.env whole) (TP X pins σ Q) X.xe s
theorem PW.pt {X : Cx} {e : Expr} {t : TT} (h : PW X e t) : PT X e t := h _
def PA (X : Cx) (es : List Expr) (t : TA) : Prop :=
  ∀ (pos : Pos) (pins : List (Addr × Obj)) (s : Shared) (σ : St) (H : Hp) (Q : List V → Hp → Prop), Inv X pins σ H s → t σ H Q → wpAny (model X.prog X.w) X.A (spliced (backTo pos (starEach es X.env))) (AP X pins σ Q) X.xe s
def PS (X : Cx) (st : Stmt) (t : TS) : Prop :=
  ∀ (pins : List (Addr × Obj)) (s : Shared) (σ : St) (H : Hp) (D : Ends), Inv X pins σ H s → t D σ H → wpAny (model X.prog X.w) X.A (exec st X.env) (SP X pins D) X.xe s
def PSs (X : Cx) (st : List Stmt) (t : TS) : Prop :=
  ∀ (pins : List (Addr × Obj)) (s : Shared) (σ : St) (H : Hp) (D : Ends), Inv X pins σ H s → t D σ H → wpAny (model X.prog X.w) X.A (execs st X.env) (SP X pins D) X.xe s
theorem thn {α : Type} {t : Sem α} {Q Q' : α → Shared → Prop} {M : Model} {A : Around} {E : Value → Shared → Prop} {s : Shared} (h : wpAny M A t Q E s) (hQ : ∀ a s, Q a s → Q' a s) : wpAny M A t Q' E s := wpAny_mono h hQ fun _ _ x => x
end L2
namespace L2
open PySem PySem.Spec PyProof.Rows
section
variable {X : Cx}
def tVar (i : Nat) : TE := fun σ H Q => ∃ v, σ[i]? = some (some v) ∧ Q v H
def tC (v : V) : TE := fun _ H Q => Q v H
theorem pe_var {i : Nat} {x : Str} {pos : Pos} (hN : X.N[i]? = some x) (hv : Vis X.env.scope x) (hd : (x == ("__debug__" : Str)) = false := by decide) (hcd : (x == ("__classdict__" : Str)) = false := by decide) : PE X (.Name x pos) (tVar i) := by
  intro pins s σ H Q I h
  obtain ⟨v, e, h⟩ := h
  obtain ⟨m, hn, hl⟩ := I.loc
  obtain ⟨u, r, l⟩ := hl i x v hN e hv
  have fin : EP X pins σ Q u s := ⟨v, H, I, r, h⟩
  rcases l with ⟨hk, hm⟩ | ⟨hk, c, hc, hcell⟩
  · exact wpAny_Name (wpAny_loadName_local I.ok.kind hk hn hm fin) hd
  · rcases hk with hk | hk
    · exact wpAny_Name (wpAny_loadName_cell I.ok.kind hk hc hcell fin) hd
    · exact wpAny_Name (wpAny_loadName_free I.ok.kind hk hc hcell fin hcd) hd
theorem pe_int {i j pos} : PE X (.Constant (.int i) j pos) (tC (.int i)) := fun _ _ _ H _ I h => wpAny_Constant_int ⟨.int i, H, I.tok _, ⟨_, rfl⟩, h⟩
theorem pe_bl {b j pos} : PE X (.Constant (.bool b) j pos) (tC (.bl b)) := fun _ _ _ H _ I h => Constant_bool ⟨.bl b, H, I, rfl, h⟩
theorem pe_non {j pos} : PE X (.Constant .none j pos) (tC .non) := fun _ _ _ H _ I h => Constant_none ⟨.non, H, I, rfl, h⟩
theorem pe_str {x j pos} : PE X (.Constant (.str x) j pos) (tC (.str x)) := fun _ _ _ H _ I h => Calls.Constant_str ⟨.str x, H, I.tok _, ⟨_, rfl⟩, h⟩
def Gl (X : Cx) (x : Str) : Prop := X.env.kindOf x = some .globalImplicit
theorem ld_glob {E : Value → Shared → Prop} {pins : List (Addr × Obj)} {s : Shared} {σ : St} {H : Hp} {x : Str} {u : Value} {pos : Pos} {Q : Value → Shared → Prop} (I : Inv X pins σ H s) (hg : Gl X x) (hm : X.mg x = some u) (h : Q u s)
    (hd : (x == ("__debug__" : Str)) = false := by decide) : wpAny (model X.prog X.w) X.A (eval (.Name x pos) X.env) Q E s :=
  Calls.Name_function_global I.ok.kind hg (Calls.loadGlobal_global (by rw [I.ok.glob]; exact I.mod.glob.keeps I.bk) hm h) hd
theorem ld_blt {E : Value → Shared → Prop} {pins : List (Addr × Obj)} {s : Shared} {σ : St} {H : Hp} {x : Str} {u : Value} {pos : Pos} {Q : Value → Shared → Prop} (I : Inv X pins σ H s) (hg : Gl X x) (hm : X.mg x = none) (hv : bootBuiltins x = some u) (h : Q u s)
    (hn : x ≠ "__name__" := by decide) (hd : (x == ("__debug__" : Str)) = false := by decide) : wpAny (model X.prog X.w) X.A (eval (.Name x pos) X.env) Q E s := by
  obtain ⟨mb, h1, h2⟩ := I.mod.blt
  exact Calls.Name_function_global I.ok.kind hg (Calls.loadGlobal_builtin (by rw [I.ok.glob]; exact I.mod.glob.keeps I.bk) hm (by rw [I.ok.blt]; exact h1.keeps I.bk) ((h2 x hn).trans hv) h) hd
theorem pe_glob {x : Str} {v : V} {u : Value} {pos : Pos} (hg : Gl X x) (hm : X.mg x = some u) (r : RelV v u) (hd : (x == ("__debug__" : Str)) = false := by decide) : PE X (.Name x pos) (tC v) :=
  fun _ _ _ H _ I h => ld_glob I hg hm ⟨v, H, I, r, h⟩ hd
theorem pe_bltn {x : Str} {v : V} {u : Value} {pos : Pos} (hg : Gl X x) (hm : X.mg x = none) (hv : bootBuiltins x = some u) (r : RelV v u) (hn : x ≠ "__name__" := by decide) (hd : (x == ("__debug__" : Str)) = false := by decide) : PE X (.Name x pos) (tC v) :=
  fun _ _ _ H _ I h => ld_blt I hg hm hv ⟨v, H, I, r, h⟩ hn hd
variable {a b : Expr} {ta tb : TE} {pos : Pos}
def PC (X : Cx) (op : CmpOp) (a b : Expr) (t : TE) : Prop :=
  ∀ (pins : List (Addr × Obj)) (s : Shared) (σ : St) (H : Hp) (Q : VK), Inv X pins σ H s → t σ H Q →
    wpAny (model X.prog X.w) X.A (eval a X.env) (fun v s₁ => wpAny (model X.prog X.w) X.A (eval b X.env) (fun u s₂ => wpAny (model X.prog X.w) X.A (compareOp op v u) (EP X pins σ Q) X.xe s₂) X.xe s₁) X.xe s
theorem nobehind (b : Expr) {op : CmpOp} (h : op ≠ .In) (h2 : op ≠ .NotIn) : behindInMarks op b = false := by
  have e1 : (op == CmpOp.In) = false := by cases op <;> first | rfl | exact absurd rfl h
  have e2 : (op == CmpOp.NotIn) = false := by cases op <;> first | rfl | exact absurd rfl h2
  cases b <;> simp [behindInMarks, e1, e2]
def tIsN (ta : TE) : TE := fun σ H Q => ta σ H fun x H1 => Q (.bl (decide (x = .non))) H1
theorem RelV.none_iff {x : V} {v : Value} (r : RelV x v) : (v == Value.none) = decide (x = .non) := by
  cases x with
  | non => cases r; rfl
  | bl _ => cases r; rfl
  | int _ => obtain ⟨t, rfl⟩ := r; rfl
  | str _ => obtain ⟨t, rfl⟩ := r; rfl
  | byt _ => obtain ⟨t, rfl⟩ := r; rfl
  | flt _ => obtain ⟨t, rfl⟩ := r; rfl
  | ref _ => cases r; rfl
  | ty _ => cases r; rfl
theorem pc_isN {j pos'} (ha : PE X a ta) : PC X .Is a (.Constant .none j pos') (tIsN ta) := by
  intro pins s σ H Q I h
  refine thn (ha pins s σ H _ I h) fun v s1 ⟨x, H1, I1, r1, q1⟩ => ?_
  exact Constant_none (is_none_gen ⟨.bl _, H1, I1, by rw [r1.none_iff]; rfl, q1⟩)
def tB (t : TE) : TT := fun σ H Q => t σ H fun x H1 => ∃ c, x = .bl c ∧ Q c H1
theorem pt_cmp {op : CmpOp} {t : TE} (h : PC X op a b t) (h1 : behindInMarks op b = false := by first | exact nobehind _ (by decide) (by decide) | rfl) : PT X (.Compare a [op] [b] pos) (tB t) := by
  intro pins s σ H Q I hw
  refine wpAny_isTrue_Compare1 (thn (h pins s σ H _ I hw) fun v s1 h1 => thn h1 fun u s2 h2 => thn h2 fun c s3 ⟨x, H1, I1, r1, q1⟩ => ?_) h1
  obtain ⟨d, rfl, q⟩ := q1
  cases r1
  exact wpAny_truthy_bool ⟨H1, I1, q⟩
theorem pt_val {e : Expr} {t : TE} (h : PE X e t) (he : ∀ whole, isTrue e X.env whole = (do let v ← whole; standAt e.pos; holding [v] (truthy v)) := by intro _; rfl) : PT X e (tB t) := by
  intro pins s σ H Q I hw
  refine isTrue_plain (thn (h pins s σ H _ I hw) fun v s1 ⟨x, H1, I1, r1, q1⟩ => ?_) (he _)
  obtain ⟨d, rfl, q⟩ := q1
  cases r1
  exact wpAny_truthy_bool ⟨H1, I1, q⟩
variable {tA tB' : TT} {rest : List Expr}
def tOr (t u : TT) : TT := fun σ H Q => t σ H fun c H1 => if c = true then Q true H1 else u σ H1 Q
def tNot (t : TT) : TT := fun σ H Q => t σ H fun c H1 => Q (!c) H1
theorem pw_or1 (ha : PT X a tA) : PW X (.BoolOp .Or [a] pos) tA := by
  intro wh pins s σ H Q I h
  refine isTrue_or (thn (ha pins s σ H Q I h) fun c s1 e => ?_)
  cases c with
  | false => exact isTrue_or_nil e
  | true => exact e
theorem pw_or (ha : PT X a tA) (hb : PW X (.BoolOp .Or (b :: rest) pos) tB') : PW X (.BoolOp .Or (a :: b :: rest) pos) (tOr tA tB') := by
  intro wh pins s σ H Q I h
  refine isTrue_or (thn (ha pins s σ H _ I h) fun c s1 ⟨H1, I1, q1⟩ => ?_)
  cases c with
  | true => exact ⟨H1, I1, q1⟩
  | false => exact hb wh pins s1 σ H1 Q I1 q1
theorem pt_not (ha : PT X a tA) : PT X (.UnaryOp .Not a pos) (tNot tA) := by
  intro pins s σ H Q I h
  exact isTrue_not (ha pins s σ H (fun c H1 => Q (!c) H1) I h)
def tAndV (ta tb : TE) : TE := fun σ H Q => ta σ H fun x H1 => ∃ c, x = .bl c ∧ if c = true then tb σ H1 Q else Q (.bl false) H1
def tNotV (ta : TE) : TE := fun σ H Q => ta σ H fun x H1 => ∃ c, x = .bl c ∧ Q (.bl (!c)) H1
theorem pe_one {op} {t : TE} (h : PE X a t) : PE X (.BoolOp op [a] pos) t := fun pins s σ H Q I hw => BoolOp_one (h pins s σ H Q I hw)
theorem pe_and (ha : PE X a ta) (hb : PE X (.BoolOp .And (b :: rest) pos) tb) : PE X (.BoolOp .And (a :: b :: rest) pos) (tAndV ta tb) := by
  intro pins s σ H Q I h
  refine BoolOp_and (thn (ha pins s σ H _ I h) fun v s1 ⟨x, H1, I1, r1, q1⟩ => ?_)
  obtain ⟨c, rfl, q1⟩ := q1
  cases r1
  refine wpAny_truthy_bool ?_
  cases c with
  | true => exact hb pins s1 σ H1 Q I1 q1
  | false => exact ⟨.bl false, H1, I1, rfl, q1⟩
theorem pe_not (ha : PE X a ta) : PE X (.UnaryOp .Not a pos) (tNotV ta) := by
  intro pins s σ H Q I h
  refine UnaryOp_ (thn (ha pins s σ H _ I h) fun v s1 ⟨x, H1, I1, r1, q1⟩ => ?_)
  obtain ⟨c, rfl, q1⟩ := q1
  cases r1
  exact not_of (wpAny_truthy_bool ⟨.bl (!c), H1, I1, rfl, q1⟩)
end
end L2
namespace L2
open PySem PySem.Spec PyProof.Rows
def SqL (K : PySem.W.Frag) (H : Hp) (a : Addr) (xs : List V) : Prop :=
  Rd H a (.lst xs) ∨
    ∃ (o : Obj) (its : Array Value) (n : Nat), K.lookup a = some o ∧ o.cls = .type "list" ∧ o.dict = none ∧ o.data = .seq its n ∧ its.size ≤ sizeLine ∧ Vals xs its.toList
def SqT (K : PySem.W.Frag) (H : Hp) (a : Addr) (xs : List V) : Prop :=
  Rd H a (.tup xs) ∨
    ∃ (o : Obj) (its : Array Value) (n : Nat), K.lookup a = some o ∧ o.cls = .type "tuple" ∧ o.data = .seq its n ∧ (its.size ≤ sizeLine ∧ o.dict = none) ∧ Vals xs its.toList
def absV : Value → Option V
  | .none => some .non
  | .bool b => some (.bl b)
  | .int i _ => some (.int i)
  | .str x _ => some (.str x)
  | .bytes b _ => some (.byt b)
  | .float b _ => some (.flt b)
  | .ref a => some (.ref a)
  | .type n => some (.ty n)
  | _ => none
theorem RelV.abs {x : V} {u : Value} (r : RelV x u) : absV u = some x := by
  cases x with
  | non => cases r; rfl
  | bl _ => cases r; rfl
  | int _ => obtain ⟨t, rfl⟩ := r; rfl
  | str _ => obtain ⟨t, rfl⟩ := r; rfl
  | byt _ => obtain ⟨t, rfl⟩ := r; rfl
  | flt _ => obtain ⟨t, rfl⟩ := r; rfl
  | ref _ => cases r; rfl
  | ty _ => cases r; rfl
theorem RelV.inj {x y : V} {u : Value} (r : RelV x u) (q : RelV y u) : x = y := Option.some.inj (r.abs.symm.trans q.abs)
theorem Vals.inj : ∀ {xs ys : List V} {us : List Value}, Vals xs us → Vals ys us → xs = ys
  | _, _, _, .nil, .nil => rfl
  | _, _, _, .cons r t, .cons r' t' => by rw [r.inj r', Vals.inj t t']
section
variable {X : Cx} {pins : List (Addr × Obj)} {σ : St} {H : Hp} {s : Shared} {a : Addr} {xs ys : List V}
theorem SqL.of {K : PySem.W.Frag} (h : H a = some (.lst xs)) : SqL K H a xs := .inl (.inl h)
theorem SqT.of {K : PySem.W.Frag} (h : H a = some (.tup xs)) : SqT K H a xs := .inl (.inl h)
theorem Inv.list (I : Inv X pins σ H s) (h : SqL X.K H a xs) : ∃ its : List Value, Vals xs its ∧ PlainL s.heap a its.toArray ∧ xs.length ≤ sizeLine := by
  rcases h with h | ⟨o, its, n, hk, hc, hd, hs, hz, r⟩
  · obtain ⟨z, its, n, r, e⟩ := h.ok I.hok
    exact ⟨its, r, ⟨_, n, e, rfl, rfl, rfl⟩, z⟩
  · refine ⟨its.toList, r, ⟨o, n, I.kIn a o hk, hc, hd, by simpa using hs⟩, ?_⟩
    have e := r.length
    simp only [Array.length_toList] at e
    omega
theorem Inv.tuple (I : Inv X pins σ H s) (h : SqT X.K H a xs) : ∃ its : List Value, Vals xs its ∧ IsTup s.heap a its.toArray ∧ xs.length ≤ sizeLine := by
  rcases h with h | ⟨o, its, n, hk, hc, hs, hz, r⟩
  · obtain ⟨z, its, r, p⟩ := h.ok I.hok
    exact ⟨its, r, p, z.1⟩
  · refine ⟨its.toList, r, ⟨o, I.kIn a o hk, hc, n, by simpa using hs⟩, ?_⟩
    have e := r.length
    simp only [Array.length_toList] at e
    omega
theorem Inv.tupleD (I : Inv X pins σ H s) (h : SqT X.K H a xs) : NoD s.heap a := by
  rcases h with h | ⟨o, its, n, hk, hc, hs, hz, r⟩
  · obtain ⟨z, its, r, p⟩ := h.ok I.hok
    exact z.2
  · exact ⟨o, I.kIn a o hk, hz.2⟩
theorem NoD.new {h : Heap} {its : Array Value} {n : Nat} : NoD (h.push { cls := .type "tuple", data := .seq its n }) h.objs.size := ⟨_, Heap.get?_push_size _ rfl, rfl⟩
theorem Inv.list_inj (I : Inv X pins σ H s) (h : SqL X.K H a xs) (h' : SqL X.K H a ys) : xs = ys := by
  obtain ⟨its, r, ⟨o, n, e, _, _, d⟩, _⟩ := I.list h
  obtain ⟨its', r', ⟨o', n', e', _, _, d'⟩, _⟩ := I.list h'
  rw [e] at e'; cases e'
  rw [d] at d'
  injection d' with d1 _
  have : its = its' := by simpa using congrArg Array.toList d1
  subst this
  exact r.inj r'
theorem Inv.tuple_inj (I : Inv X pins σ H s) (h : SqT X.K H a xs) (h' : SqT X.K H a ys) : xs = ys := by
  obtain ⟨its, r, ⟨o, e, _, n, d⟩, _⟩ := I.tuple h
  obtain ⟨its', r', ⟨o', e', _, n', d'⟩, _⟩ := I.tuple h'
  rw [e] at e'; cases e'
  rw [d] at d'
  injection d' with d1 _
  have : its = its' := by simpa using congrArg Array.toList d1
  subst this
  exact r.inj r'
end
abbrev Cx.wish (X : Cx) (E : Value → Shared → Prop) : Cx := { X with xe := E }
abbrev Cx.nox (X : Cx) : Cx := X.wish fun _ _ => False
theorem Cx.Ok.wish {X : Cx} (ok : X.Ok) (E : Value → Shared → Prop) : (X.wish E).Ok :=
  ⟨ok.mod, ok.kind, ok.glob, ok.blt, ok.above, ok.inj, ok.has, ok.cab, ok.hd, ok.frames, ok.stk, ok.exf, ok.bs, ok.bsz, ok.noex, ok.exfs, ok.funs, ok.frf⟩
theorem Cx.Ok.unwish {X : Cx} {E : Value → Shared → Prop} (ok : (X.wish E).Ok) : X.Ok :=
  ⟨ok.mod, ok.kind, ok.glob, ok.blt, ok.above, ok.inj, ok.has, ok.cab, ok.hd, ok.frames, ok.stk, ok.exf, ok.bs, ok.bsz, ok.noex, ok.exfs, ok.funs, ok.frf⟩
section
variable {X : Cx} {pins : List (Addr × Obj)} {σ : St} {H : Hp} {s : Shared} {E : Value → Shared → Prop}
theorem Inv.wish (I : Inv X pins σ H s) (E : Value → Shared → Prop) : Inv (X.wish E) pins σ H s := ⟨I.ok.wish E, I.os, I.bare, I.base, I.loc, I.cell, I.free, I.freeC, I.pin, I.hok, I.len⟩
theorem Inv.unwish (I : Inv (X.wish E) pins σ H s) : Inv X pins σ H s := ⟨I.ok.unwish, I.os, I.bare, I.base, I.loc, I.cell, I.free, I.freeC, I.pin, I.hok, I.len⟩
theorem SP.unwish {D : Ends} {f : Flow} {s' : Shared} (h : SP (X.wish E) pins D f s') : SP X pins D f s' := by
  cases f with
  | next => obtain ⟨σ', H', I, q⟩ := h; exact ⟨σ', H', I.unwish, q⟩
  | brk => obtain ⟨σ', H', I, q⟩ := h; exact ⟨σ', H', I.unwish, q⟩
  | cont => obtain ⟨σ', H', I, q⟩ := h; exact ⟨σ', H', I.unwish, q⟩
  | ret u => obtain ⟨v, σ', H', I, r, q⟩ := h; exact ⟨v, σ', H', I.unwish, r, q⟩
theorem PSs.nox {st : List Stmt} {t : TS} (h : PSs X.nox st t) : PSs X st t := fun pins s σ H D I hw =>
  wpAny_mono (h pins s σ H D (I.wish _) hw) (fun _ _ q => q.unwish) fun _ _ z => False.elim z
end
section
variable {X : Cx} {st : Stmt} {rest : List Stmt} {t u : TS} {e : Expr} {te : TE} {pos : Pos}
def tNext : TS := fun D σ H => D.nx σ H
def tSeq (t u : TS) : TS := fun D σ H => t { D with nx := u D } σ H
theorem pss_nil : PSs X [] tNext := fun _ _ σ H _ I h => wpAny_execs_nil ⟨σ, H, I, h⟩
theorem pss_cons (h1 : PS X st t) (h2 : PSs X rest u) : PSs X (st :: rest) (tSeq t u) := by
  intro pins s σ H D I h
  refine wpAny_execs_cons (thn (h1 pins s σ H { D with nx := u D } I h) fun f s1 q => ?_)
  cases f with
  | next =>
    obtain ⟨σ', H', I', q⟩ := q
    exact h2 pins s1 σ' H' D I' q
  | ret v => exact q
  | brk => exact q
  | cont => exact q
theorem pss_one (h1 : PS X st t) : PSs X [st] t := by
  intro pins s σ H D I h
  refine wpAny_execs_cons (thn (h1 pins s σ H D I h) fun f s1 q => ?_)
  cases f with
  | next => exact wpAny_execs_nil q
  | ret v => exact q
  | brk => exact q
  | cont => exact q
theorem Inv.quiet {pins : List (Addr × Obj)} {σ : St} {H : Hp} {s : Shared} (I : Inv X pins σ H s) : interactive X.env = false := by simp [interactive, I.ok.kind]
def tDrop (te : TE) : TS := fun D σ H => te σ H fun _ H1 => D.nx σ H1
theorem ps_expr (he : PE X e te) (hs : swapsWith e none pos.line X.env = pure false := by rfl) : PS X (.Expr e pos) (tDrop te) := by
  intro pins s σ H D I h
  exact wpAny_Expr_any (thn (he pins s σ H _ I h) fun v s1 ⟨x, H1, I1, r1, q1⟩ => ⟨σ, H1, I1, q1⟩) I.quiet hs
def tRet (te : TE) : TS := fun D σ H => te σ H D.rt
theorem ps_ret (he : PE X e te) : PS X (.Return (some e) pos) (tRet te) := by
  intro pins s σ H D I h
  exact wpAny_Return_some (thn (he pins s σ H _ I h) fun v s1 ⟨x, H1, I1, r1, q1⟩ => ⟨x, σ, H1, I1, r1, q1⟩)
def tIfS (c : TT) (t u : TS) : TS := fun D σ H => c σ H fun b H1 => if b = true then t D σ H1 else u D σ H1
theorem ps_if {c : Expr} {a b : List Stmt} {tc : TT} (hc : PT X c tc) (ha : PSs X a t) (hb : PSs X b u) : PS X (.If c a b pos) (tIfS tc t u) := by
  intro pins s σ H D I h
  refine wpAny_If (thn (hc pins s σ H _ I h) fun d s1 ⟨H1, I1, q1⟩ => ?_)
  cases d with
  | true => exact ha pins s1 σ H1 D I1 q1
  | false => exact hb pins s1 σ H1 D I1 q1
end
abbrev TG := V → St → Hp → (St → Hp → Prop) → Prop
def PG (X : Cx) (target : Expr) (t : TG) : Prop :=
  ∀ (pins : List (Addr × Obj)) (s : Shared) (σ : St) (H : Hp) (v : V) (u : Value) (Q : St → Hp → Prop), Inv X pins σ H s → RelV v u → t v σ H Q →
    wpAny (model X.prog X.w) X.A (assign target X.env u) (fun _ s' => ∃ σ' H', Inv X pins σ' H' s' ∧ Q σ' H') X.xe s
section
variable {X : Cx} {pos : Pos}
def gName (i : Nat) : TG := fun v σ H Q => Q (σ.set i (some v)) H
theorem pg_name {i : Nat} {x : Str} (hN : X.N.Nodup) (hi : X.N[i]? = some x) (hx : Loc X.env.scope x) (hf : X.fn x = true ∨ X.env.scope.names.lookup x = some .local := by first | exact .inl rfl | exact .inr rfl | assumption) : PG X (.Name x pos) (gName i) := by
  intro pins s σ H v u Q I r h
  exact wpAny_assign_Name (store_ok I hN hi hx r (fun s' I' => ⟨_, H, I', h⟩) hf)
def tAsg (te : TE) (g : TG) : TS := fun D σ H => te σ H fun x H1 => g x σ H1 D.nx
theorem ps_set {i : Nat} {x : Str} {e : Expr} {te : TE} {pos' : Pos} (hN : X.N.Nodup) (hi : X.N[i]? = some x) (hx : Loc X.env.scope x) (he : PE X e te) (hs : swapsWith e (some (.Name x pos')) pos.line X.env = pure false := by rfl) (hf : X.fn x = true ∨ X.env.scope.names.lookup x = some .local := by first | exact .inl rfl | exact .inr rfl | assumption) :
    PS X (.Assign [.Name x pos'] e pos) (tAsg te (gName i)) := by
  intro pins s σ H D I h
  refine wpAny_Assign_Name (thn (he pins s σ H _ I h) fun v s1 ⟨y, H1, I1, r1, q1⟩ => ?_) hs
  exact store_ok I1 hN hi hx r1 (fun s2 I2 => ⟨_, H1, I2, q1⟩) hf
end
section
variable {X : Cx} {pos : Pos}
def tWhile (c : TT) (tb : TS) : TS := fun D σ H => ∃ W : Nat → St → Hp → Prop, (∃ m, W m σ H) ∧ ∀ m σ H, W m σ H →
  c σ H fun b H1 => if b = true then ∃ N : St → Hp → Prop, (∀ σ' H', N σ' H' → ∃ m', m' < m ∧ W m' σ' H') ∧ tb { D with nx := N, ct := N, bk := D.nx } σ H1 else D.nx σ H1
theorem ps_while {c : Expr} {body : List Stmt} {tc : TT} {tb : TS} (hp : PassesOwn (model X.prog X.w) X.A X.env X.xe) (hc : PT X c tc) (hb : PSs X body tb) : PS X (.While c body [] pos) (tWhile tc tb) := by
  intro pins s σ H D I h
  obtain ⟨W, ⟨m0, w0⟩, turn⟩ := h
  refine wpAny_While (codeAny_whileLoop (fun n s' => ∃ σ' H', Inv X pins σ' H' s' ∧ W n σ' H') ?_ m0 ⟨σ, H, I, w0⟩)
  rintro n s1 ⟨σ1, H1, I1, w1⟩
  refine wpAny_passesOwn hp (thn (hc pins s1 σ1 H1 _ I1 (turn n σ1 H1 w1)) fun b s2 ⟨H2, I2, q2⟩ => ?_)
  cases b with
  | true =>
    obtain ⟨N, hN, q2⟩ := q2
    rw [if_pos rfl]
    refine wpAny_passesOwn hp (thn (hb pins s2 σ1 H2 _ I2 q2) fun f s3 q3 => ?_)
    cases f with
    | next =>
      obtain ⟨σ3, H3, I3, n3⟩ := q3
      obtain ⟨m', hm, w3⟩ := hN σ3 H3 n3
      exact ⟨m', hm, σ3, H3, I3, w3⟩
    | cont =>
      obtain ⟨σ3, H3, I3, n3⟩ := q3
      obtain ⟨m', hm, w3⟩ := hN σ3 H3 n3
      exact ⟨m', hm, σ3, H3, I3, w3⟩
    | brk => exact q3
    | ret v => exact q3
  | false =>
    rw [if_neg Bool.false_ne_true]
    exact wpAny_execs_nil ⟨σ1, H2, I2, q2⟩
end
structure It where
  go : Nat → Hp → Prop
  yld : Nat → Hp → V → Hp → Prop
  stop : Nat → Hp → Prop
def FpOk (X : Cx) (pins : List (Addr × Obj)) (H : Hp) (b : Addr) : Prop :=
  H b = none ∧ b ≠ X.env.locals ∧ b ∉ X.fs ∧ (b ∈ X.ex ∨ X.s₀.heap.objs.size ≤ b) ∧ (∀ x c, X.env.cells.lookup x = some c → c ≠ b) ∧ ∀ p ∈ X.pn ++ pins, p.1 ≠ b
theorem Inv.fpOk {X : Cx} {pins : List (Addr × Obj)} {σ : St} {H H' : Hp} {s : Shared} {b : Addr} (I : Inv X pins σ H s) (hb : s.heap.objs.size ≤ b) (hn : H' b = none) : FpOk X pins H' b := by
  refine ⟨hn, Nat.ne_of_gt (Nat.lt_of_lt_of_le I.lt hb), I.nofs hb, .inr (Nat.le_trans I.sz hb), fun x c e z => ?_, fun p hp z => ?_⟩
  · obtain ⟨v, q⟩ := I.cell x c e
    exact absurd (Nat.lt_of_lt_of_le q.lt (by rw [z]; exact hb)) (Nat.lt_irrefl _)
  · exact absurd (Nat.lt_of_lt_of_le (Heap.lt_size (I.pin p hp).1) (by rw [z]; exact hb)) (Nat.lt_irrefl _)
structure Turn (P : Program) (w : World) (K : PySem.W.Frag) (tg : Expr) (J : It) (fp : List Addr) (it : Addr) (tn : Nat → Heap → Prop) : Prop where
  mem : it ∈ fp
  obj : ∀ i h, tn i h → ∀ b ∈ fp, ∃ o, h.get? b = some o ∧ ∀ v, o.data ≠ .cell v
  keep : ∀ i h h', tn i h → (∀ b ∈ fp, ∀ o, h.get? b = some o → h'.get? b = some o) → tn i h'
  item : ∀ (X : Cx), X.prog = P → X.w = w → X.K = K → X.calm = true → ∀ (i : Nat) (pins : List (Addr × Obj)) (s : Shared) (σ : St) (H : Hp) (E : Value → Shared → Prop), Inv X pins σ H s → (∀ b ∈ fp, FpOk X pins H b) → tn i s.heap → J.go i H →
    wpAny (model P w) X.A (pyNext (.ref it)) (fun r s1 => ∃ u, r = some u ∧
      wpAny (model P w) X.A (letOwnedTupleGo tg (.ref it) u) (fun _ s2 => ∃ x H', Inv X pins σ H' s2 ∧ RelV x u ∧ J.yld i H x H' ∧ tn (i + 1) s2.heap ∧ ∀ b ∈ fp, H' b = none) E s1) E s
  done : ∀ (X : Cx), X.prog = P → X.w = w → X.K = K → X.calm = true → ∀ (i : Nat) (pins : List (Addr × Obj)) (s : Shared) (σ : St) (H : Hp) (E : Value → Shared → Prop), Inv X pins σ H s → (∀ b ∈ fp, FpOk X pins H b) → tn i s.heap → J.stop i H →
    wpAny (model P w) X.A (pyNext (.ref it)) (fun r s1 => r = none ∧ Inv X pins σ H s1) E s
  self : ∀ (A : Around) (i : Nat) (s : Shared) (Q : Value → Shared → Prop) (E : Value → Shared → Prop), tn i s.heap → Q (.ref it) s → wpAny (model P w) A (pyIter (.ref it)) Q E s
abbrev TI := St → Hp → (It → Hp → Prop) → Prop
def PIE (X : Cx) (pins : List (Addr × Obj)) (σ : St) (tg : Expr) (R : It → Hp → Prop) (itv : Value) (s2 : Shared) : Prop :=
  ∃ (it : Addr) (fp : List Addr) (tn : Nat → Heap → Prop) (J : It) (H' : Hp), itv = .ref it ∧ Inv X pins σ H' s2 ∧ Turn X.prog X.w X.K tg J fp it tn ∧ tn 0 s2.heap ∧ (∀ b ∈ fp, FpOk X pins H' b) ∧ R J H'
def PI (X : Cx) (tg iter : Expr) (wi : TI) : Prop :=
  ∀ (pins : List (Addr × Obj)) (s : Shared) (σ : St) (H : Hp) (R : It → Hp → Prop), Inv X pins σ H s → wi σ H R →
    wpAny (model X.prog X.w) X.A (eval iter X.env) (fun v s1 => wpAny (model X.prog X.w) X.A (pyIter v) (PIE X pins σ tg R) X.xe s1) X.xe s
theorem go_of {M : Model} {A : Around} {E : Value → Shared → Prop} {s : Shared} {tg : Expr} {it : Addr} {u : Value} {o : Obj} {n : String} {vs : Array Value} {Q : Unit → Shared → Prop} (ho : s.heap.get? it = some o) (hc : o.cls = .type n) (hd : o.data = .fields vs)
    (hn : ["enumerate", "zip", "dict_itemiterator", "dict_reverseitemiterator", "odict_iterator", "itertools.zip_longest", "itertools.pairwise"].contains n = false) (hQ : Q () s) : wpAny M A (letOwnedTupleGo tg (.ref it) u) Q E s := by
  unfold letOwnedTupleGo
  cases tg <;> first
    | exact wpAny_pure hQ
    | (cases u <;> first
        | exact wpAny_pure hQ
        | (refine wpAny_bind (wpAny_load ho ?_)
           rw [hc, hd]
           show wpAny M A (if (["enumerate", "zip", "dict_itemiterator", "dict_reverseitemiterator", "odict_iterator", "itertools.zip_longest", "itertools.pairwise"].contains n && vs[0]? == some (rawInt _)) = true then _ else _) Q E s
           rw [if_neg (by intro h; rw [hn, Bool.false_and] at h; cases h)]
           exact wpAny_pure hQ))
def Itl (K : PySem.W.Frag) (a : Addr) : It :=
  ⟨fun i H => ∃ xs x, SqL K H a xs ∧ xs[i]? = some x, fun i H x H' => H' = H ∧ ∀ xs, SqL K H a xs → xs[i]? = some x, fun i H => ∃ xs, SqL K H a xs ∧ xs.length ≤ i⟩
def Itt (K : PySem.W.Frag) (a : Addr) : It :=
  ⟨fun i H => ∃ xs x, SqT K H a xs ∧ xs[i]? = some x, fun i H x H' => H' = H ∧ ∀ xs, SqT K H a xs → xs[i]? = some x, fun i H => ∃ xs, SqT K H a xs ∧ xs.length ≤ i⟩
def Itr (lo : Int) (n : Nat) : It := ⟨fun i _ => i < n, fun i H x H' => H' = H ∧ x = .int (lo + i), fun i _ => n ≤ i⟩
theorem turn_list {P : Program} {w : World} {K : PySem.W.Frag} {tg : Expr} (a it : Addr) : Turn P w K tg (Itl K a) [it] it (fun i h => h.IsListIter it a i) where
  mem := by simp
  obj := fun i h st b hb => by
    have e : b = it := by simpa using hb
    subst e
    obtain ⟨o, e, c, d⟩ := st
    exact ⟨o, e, fun v z => by rw [d] at z; cases z⟩
  keep := fun i h h' st k => st.at fun o e => k it (by simp) o e
  item := by
    intro X hP hw hK hc i pins s σ H E I hf st hg
    subst hP hw hK
    obtain ⟨xs, x, hq, hx⟩ := hg
    obtain ⟨its, rv, p, hz⟩ := I.list hq
    obtain ⟨u, hu, ru⟩ := rv.get hx
    obtain ⟨f0, f1, f2, f3, f4, f5⟩ := hf it (by simp)
    refine wpAny_pyNext_list_item st p.isList (x := u) (by simpa using hu) fun h' st' sb => ?_
    have I1 : Inv X pins σ H { s with heap := h' } := I.turned (t' := s.toks) (fun b o hb e => (sb.2 b hb).trans e) f0 f1 f3 f4 f5
    obtain ⟨o, e, c, d⟩ := id st'
    exact ⟨u, rfl, go_of (s := { s with heap := h' }) e c d (by decide) ⟨x, H, I1, ru, ⟨rfl, fun ys hy => by rw [I.list_inj hy hq]; exact hx⟩, st', fun b hb => (hf b hb).1⟩⟩
  done := by
    intro X hP hw hK hc i pins s σ H E I hf st hg
    subst hP hw hK
    obtain ⟨xs, hq, hx⟩ := hg
    obtain ⟨its, rv, p, hz⟩ := I.list hq
    obtain ⟨f0, f1, f2, f3, f4, f5⟩ := hf it (by simp)
    have hl := rv.length
    exact wpAny_pyNext_list_end (I.ok.hd hc) st p.isList (by simp; omega) fun h' eb => ⟨rfl, I.turned (t' := s.toks) (fun b o hb e => eb b o hb e) f0 f1 f3 f4 f5⟩
  self := fun _ _ _ _ _ st h => wpAny_pyIter_listiter st h
theorem turn_tuple {P : Program} {w : World} {K : PySem.W.Frag} {tg : Expr} (a it : Addr) : Turn P w K tg (Itt K a) [it] it (fun i h => h.IsTupleIter it a i) where
  mem := by simp
  obj := fun i h st b hb => by
    have e : b = it := by simpa using hb
    subst e
    obtain ⟨o, e, c, d⟩ := st
    exact ⟨o, e, fun v z => by rw [d] at z; cases z⟩
  keep := fun i h h' st k => st.at fun o e => k it (by simp) o e
  item := by
    intro X hP hw hK hc i pins s σ H E I hf st hg
    subst hP hw hK
    obtain ⟨xs, x, hq, hx⟩ := hg
    obtain ⟨its, rv, p, hz⟩ := I.tuple hq
    obtain ⟨u, hu, ru⟩ := rv.get hx
    obtain ⟨f0, f1, f2, f3, f4, f5⟩ := hf it (by simp)
    refine wpAny_pyNext_tuple_item st (show s.heap.IsTuple a its.toArray from p) (x := u) (by simpa using hu) fun h' st' sb => ?_
    have I1 : Inv X pins σ H { s with heap := h' } := I.turned (t' := s.toks) (fun b o hb e => (sb.2 b hb).trans e) f0 f1 f3 f4 f5
    obtain ⟨o, e, c, d⟩ := id st'
    exact ⟨u, rfl, go_of (s := { s with heap := h' }) e c d (by decide) ⟨x, H, I1, ru, ⟨rfl, fun ys hy => by rw [I.tuple_inj hy hq]; exact hx⟩, st', fun b hb => (hf b hb).1⟩⟩
  done := by
    intro X hP hw hK hc i pins s σ H E I hf st hg
    subst hP hw hK
    obtain ⟨xs, hq, hx⟩ := hg
    obtain ⟨its, rv, p, hz⟩ := I.tuple hq
    obtain ⟨f0, f1, f2, f3, f4, f5⟩ := hf it (by simp)
    have hl := rv.length
    exact wpAny_pyNext_tuple_end (I.ok.hd hc) st (show s.heap.IsTuple a its.toArray from p) (by simp; omega) fun h' eb => ⟨rfl, I.turned (t' := s.toks) (fun b o hb e => eb b o hb e) f0 f1 f3 f4 f5⟩
  self := fun _ _ _ _ _ st h => wpAny_pyIter_tupleiter st h
theorem turn_range {P : Program} {w : World} {K : PySem.W.Frag} {tg : Expr} (it : Addr) (lo : Int) (n : Nat) : Turn P w K tg (Itr lo n) [it] it (fun i h => IsRangeIter h it (lo + (i : Nat) * 1) ((n : Int) - (i : Nat)) 1) where
  mem := by simp
  obj := fun i h st b hb => by
    have e : b = it := by simpa using hb
    subst e
    exact ⟨_, st, fun v z => by
      have z' : Data.fields _ = Data.cell v := z
      cases z'⟩
  keep := fun i h h' st k => k it (by simp) _ st
  item := by
    intro X hP hw hK hc i pins s σ H E I hf st hg
    subst hP hw hK
    obtain ⟨f0, f1, f2, f3, f4, f5⟩ := hf it (by simp)
    have W := Walks.range (prog := X.prog) (w := X.w) (I.ok.hd hc) it lo 1 n
    refine W.item i s _ _ hg st fun v h' tk hv st' kk => ?_
    obtain ⟨t, rfl⟩ := hv
    have I1 : Inv X pins σ H { s with heap := h', toks := tk } := I.turned (fun b o hb e => kk b o (by simpa using hb) e) f0 f1 f3 f4 f5
    refine ⟨_, rfl, go_of (s := { s with heap := h', toks := tk }) (n := "range_iterator") st' rfl rfl (by decide) ⟨.int (lo + i), H, I1, ⟨t, ?_⟩, ⟨rfl, rfl⟩, st', fun b hb => (hf b hb).1⟩⟩
    rw [Int.mul_one]
  done := by
    intro X hP hw hK hc i pins s σ H E I hf st hg
    subst hP hw hK
    obtain ⟨f0, f1, f2, f3, f4, f5⟩ := hf it (by simp)
    exact wpAny_pyNext_range_end (I.ok.hd hc) st (by have : n ≤ i := hg; omega) fun h' eb => ⟨rfl, I.turned (t' := s.toks) (fun b o hb e => eb b o hb e) f0 f1 f3 f4 f5⟩
  self := fun _ _ _ _ _ st h => wpAny_pyIter_rangeiter st h
end L2
namespace L2
open PySem PySem.Spec PyProof.Rows
section
variable {X : Cx} {tg : Expr}
def iList (K : PySem.W.Frag) (tl : TE) : TI := fun σ H R => tl σ H fun x H1 => ∃ a, x = .ref a ∧ (∃ xs, SqL K H1 a xs) ∧ R (Itl K a) H1
def iTup (K : PySem.W.Frag) (tl : TE) : TI := fun σ H R => tl σ H fun x H1 => ∃ a, x = .ref a ∧ (∃ xs, SqT K H1 a xs) ∧ R (Itt K a) H1
theorem pi_list {l : Expr} {tl : TE} (hl : PE X l tl) : PI X tg l (iList X.K tl) := by
  intro pins s σ H R I h
  refine thn (hl pins s σ H _ I h) fun v s1 ⟨x, H1, I1, r1, q1⟩ => ?_
  obtain ⟨a, e, ⟨xs, hq⟩, q⟩ := q1
  subst e
  cases r1
  obtain ⟨its, rv, p, hz⟩ := I1.list hq
  refine wpAny_pyIter_list p.isList ?_
  refine ⟨s1.heap.objs.size, [s1.heap.objs.size], _, _, H1, rfl, I1.kept (t' := s1.toks) fun b o e => Heap.get?_push_of_some _ e, turn_list a _, ⟨_, Heap.get?_push_size _ rfl, rfl, rfl⟩, fun b hb => ?_, q⟩
  have e : b = s1.heap.objs.size := by simpa using hb
  subst e
  exact I1.fpOk (Nat.le_refl _) (I1.hok.fresh (Nat.le_refl _))
theorem pi_tup {l : Expr} {tl : TE} (hl : PE X l tl) : PI X tg l (iTup X.K tl) := by
  intro pins s σ H R I h
  refine thn (hl pins s σ H _ I h) fun v s1 ⟨x, H1, I1, r1, q1⟩ => ?_
  obtain ⟨a, e, ⟨xs, hq⟩, q⟩ := q1
  subst e
  cases r1
  obtain ⟨its, rv, p, hz⟩ := I1.tuple hq
  refine wpAny_pyIter_tuple (show s1.heap.IsTuple a its.toArray from p) ?_
  refine ⟨s1.heap.objs.size, [s1.heap.objs.size], _, _, H1, rfl, I1.kept (t' := s1.toks) fun b o e => Heap.get?_push_of_some _ e, turn_tuple a _, ⟨_, Heap.get?_push_size _ rfl, rfl, rfl⟩, fun b hb => ?_, q⟩
  have e : b = s1.heap.objs.size := by simpa using hb
  subst e
  exact I1.fpOk (Nat.le_refl _) (I1.hok.fresh (Nat.le_refl _))
theorem range_it {pins : List (Addr × Obj)} {σ : St} {H : Hp} {s : Shared} {R : It → Hp → Prop} {E : Value → Shared → Prop} {lo hi : Int} {t u v : Tok} {tk : Nat} (I : Inv X pins σ H s) (h1 : -(2 ^ 62) ≤ lo) (h2 : lo < 2 ^ 62) (h3 : -(2 ^ 62) ≤ hi) (h4 : hi < 2 ^ 62)
    (q : R (Itr lo (hi - lo).toNat) H) : wpAny (model X.prog X.w) X.A (pyIter (.ref s.heap.objs.size)) (PIE X pins σ tg R) E { s with heap := s.heap.push { cls := .type "range", data := .fields #[.int lo t, .int hi u, .int 1 v] }, toks := tk } := by
  refine wpAny_pyIter_range (IsRange.new ..) (small_one h1 h2 h3 h4) ?_
  have I1 : Inv X pins σ H { s with heap := s.heap.push { cls := .type "range", data := .fields #[.int lo t, .int hi u, .int 1 v] }, toks := tk } := I.kept fun b o e => Heap.get?_push_of_some _ e
  refine ⟨(s.heap.push { cls := .type "range", data := .fields #[.int lo t, .int hi u, .int 1 v] }).objs.size, [(s.heap.push { cls := .type "range", data := .fields #[.int lo t, .int hi u, .int 1 v] }).objs.size], _, _, H, rfl,
    I1.kept (t' := tk) fun b o e => Heap.get?_push_of_some _ e, turn_range _ lo (hi - lo).toNat, ?_, fun b hb => ?_, q⟩
  · have e1 : lo + ((0 : Nat) : Int) * 1 = lo := by simp
    have e2 : (((hi - lo).toNat : Nat) : Int) - ((0 : Nat) : Int) = Builtin.Range.rangeSize lo hi 1 := by rw [rangeSize_one]; split <;> omega
    show IsRangeIter _ _ (lo + ((0 : Nat) : Int) * 1) ((((hi - lo).toNat : Nat) : Int) - ((0 : Nat) : Int)) 1
    rw [e1, e2]
    exact Heap.get?_push_size _ rfl
  · have e : b = (s.heap.push { cls := .type "range", data := .fields #[.int lo t, .int hi u, .int 1 v] }).objs.size := by simpa using hb
    subst e
    exact I1.fpOk (Nat.le_refl _) (I1.hok.fresh (Nat.le_refl _))
def iRng1 (ta : TA) : TI := fun σ H R => ta σ H fun vs H1 => ∃ j : Int, vs = [.int j] ∧ -(2 ^ 62) ≤ j ∧ j < 2 ^ 62 ∧ R (Itr 0 j.toNat) H1
theorem pi_range1 {a : Expr} {ta : TA} {p pos : Pos} (hg : Gl X "range") (hm : X.mg "range" = none) (ha : PA X [a] ta) (hs : starEach [a] X.env = [(false, eval a X.env)] := by rfl) : PI X tg (.Call (.Name "range" p) [a] [] pos) (iRng1 ta) := by
  intro pins s σ H R I h
  refine Call_ (ld_blt I hg hm boot_range (PyProof.Rows.callWith_type1 (thn (ha pos pins s σ H _ I h) fun us s1 ⟨vs, H1, I1, r1, q1⟩ => ?_) hs rfl))
  obtain ⟨j, e, q1, q2, q⟩ := q1
  subst e
  cases r1 with
  | cons r rr =>
    cases rr
    obtain ⟨t, rfl⟩ := r
    exact call_range_1 (range_it I1 (by omega) (by omega) q1 q2 (by simpa using q))
def tFor (wi : TI) (g : TG) (tb : TS) : TS := fun D σ H => wi σ H fun J H1 => ∃ W : Nat → Nat → St → Hp → Prop, (∃ m, W 0 m σ H1) ∧ ∀ i m σ H, W i m σ H →
  (J.stop i H ∧ D.nx σ H) ∨ (J.go i H ∧ ∃ N : St → Hp → Prop, (∀ σ' H', N σ' H' → ∃ m', m' < m ∧ W (i + 1) m' σ' H') ∧ ∀ x H', J.yld i H x H' → g x σ H' fun σ2 H2 => tb { D with nx := N, ct := N, bk := D.nx } σ2 H2)
def pinsAt (fp : List Addr) (h : Heap) : List (Addr × Obj) := fp.filterMap fun b => (h.get? b).map fun o => (b, o)
theorem mem_pinsAt {fp : List Addr} {h : Heap} {b : Addr} {o : Obj} (hb : b ∈ fp) (e : h.get? b = some o) : (b, o) ∈ pinsAt fp h := List.mem_filterMap.mpr ⟨b, hb, by rw [e]; rfl⟩
theorem of_pinsAt {fp : List Addr} {h : Heap} {p : Addr × Obj} (hp : p ∈ pinsAt fp h) : p.1 ∈ fp ∧ h.get? p.1 = some p.2 := by
  obtain ⟨b, hb, e⟩ := List.mem_filterMap.mp hp
  cases q : h.get? b with
  | none => rw [q] at e; cases e
  | some o =>
    rw [q] at e
    have e' : (b, o) = p := Option.some.inj e
    subst e'
    exact ⟨hb, q⟩
theorem Inv.pinned {pins : List (Addr × Obj)} {σ : St} {H : Hp} {s : Shared} {fp : List Addr} (I : Inv X pins σ H s) (hf : ∀ b ∈ fp, FpOk X pins H b) (ho : ∀ b ∈ fp, ∃ o, s.heap.get? b = some o ∧ ∀ v, o.data ≠ .cell v) : Inv X (pins ++ pinsAt fp s.heap) σ H s :=
  I.pins_of fun p hp => (List.mem_append.mp hp).elim (fun z => I.pin p (List.mem_append_right _ z)) fun z => by
    obtain ⟨hb, e⟩ := of_pinsAt z
    obtain ⟨f0, f1, f2, _⟩ := hf p.1 hb
    obtain ⟨o, e', d⟩ := ho p.1 hb
    rw [e] at e'; cases e'
    exact ⟨e, f0, f1, f2, d⟩
theorem Inv.unpinned {pins pl : List (Addr × Obj)} {σ : St} {H : Hp} {s : Shared} (I : Inv X (pins ++ pl) σ H s) : Inv X pins σ H s := I.pins_of fun p hp => I.pin p (List.mem_append_right _ (List.mem_append_left _ hp))
theorem ps_for {iter : Expr} {body : List Stmt} {wi : TI} {g : TG} {tb : TS} {pos : Pos} (hp : PassesOwn (model X.prog X.w) X.A X.env X.xe) (hc : X.calm = true) (hi : PI X tg iter wi) (hg : PG X tg g) (hb : PSs X body tb)
    (hs : ∀ x, foldedSetIterable iter X.env x = pure x := by intro _; rfl) : PS X (.For tg iter body [] pos) (tFor wi g tb) := by
  intro pins s σ H D I h
  refine wpAny_For (thn (hi pins s σ H _ I h) fun v s1 h1 => thn h1 fun itv s2 h2 => ?_) hs
  obtain ⟨it, fp, tn, J, H2, e, I2, T, st2, f2, W, ⟨m0, w0⟩, turn⟩ := h2
  subst e
  have stat : ∀ {H' : Hp}, (∀ b ∈ fp, H' b = none) → ∀ b ∈ fp, FpOk X pins H' b := fun hn b hb => ⟨hn b hb, (f2 b hb).2⟩
  refine codeAny_forLoop_any (fun n s' => ∃ i σ' H', Inv X pins σ' H' s' ∧ tn i s'.heap ∧ (∀ b ∈ fp, H' b = none) ∧ W i n σ' H') ?_ m0 ⟨0, σ, H2, I2, st2, fun b hb => (f2 b hb).1, w0⟩
  rintro n s3 ⟨i, σ3, H3, I3, st3, fr3, w3⟩
  rcases turn i n σ3 H3 w3 with ⟨stop, qn⟩ | ⟨go, N, hN, step⟩
  · refine wpAny_passesOwn hp (thn (T.done X rfl rfl rfl hc i pins s3 σ3 H3 X.xe I3 (stat fr3) st3 stop) fun r s4 ⟨hr, I4⟩ => ?_)
    subst hr
    exact wpAny_execs_nil ⟨σ3, H3, I4, qn⟩
  · refine wpAny_passesOwn hp (thn (T.item X rfl rfl rfl hc i pins s3 σ3 H3 X.xe I3 (stat fr3) st3 go) fun r s4 ⟨u, hr, h4⟩ => ?_)
    subst hr
    refine wpAny_passesOwn hp (thn h4 fun _ s5 ⟨x, H5, I5, r5, y5, st5, fr5⟩ => ?_)
    have I5' := I5.pinned (stat fr5) (T.obj _ _ st5)
    refine wpAny_passesOwn hp (thn (hg _ s5 σ3 H5 x u _ I5' r5 (step x H5 y5)) fun _ s6 ⟨σ6, H6, I6, q6⟩ => ?_)
    refine wpAny_passesOwn hp (thn (hb _ s6 σ6 H6 _ I6 q6) fun f s7 q7 => ?_)
    have again : ∀ {σ7 : St} {H7 : Hp}, Inv X (pins ++ pinsAt fp s5.heap) σ7 H7 s7 → N σ7 H7 → ∃ m, m < n ∧ ∃ i σ' H', Inv X pins σ' H' s7 ∧ tn i s7.heap ∧ (∀ b ∈ fp, H' b = none) ∧ W i m σ' H' := fun {σ7 H7} I7 n7 => by
      obtain ⟨m', hm, w7⟩ := hN σ7 H7 n7
      refine ⟨m', hm, i + 1, σ7, H7, I7.unpinned, T.keep _ _ _ st5 fun b hb o e => (I7.pin (b, o) (List.mem_append_right _ (List.mem_append_right _ (mem_pinsAt hb e)))).1, fun b hb => ?_, w7⟩
      obtain ⟨o, e, d⟩ := T.obj _ _ st5 b hb
      exact (I7.pin (b, o) (List.mem_append_right _ (List.mem_append_right _ (mem_pinsAt hb e)))).2.1
    cases f with
    | next => obtain ⟨σ7, H7, I7, n7⟩ := q7; exact again I7 n7
    | cont => obtain ⟨σ7, H7, I7, n7⟩ := q7; exact again I7 n7
    | brk => obtain ⟨σ7, H7, I7, q7⟩ := q7; exact ⟨σ7, H7, I7.unpinned, q7⟩
    | ret v => obtain ⟨x7, σ7, H7, I7, r7, q7⟩ := q7; exact ⟨x7, σ7, H7, I7.unpinned, r7, q7⟩
end
end L2
namespace L2
open PySem PySem.Spec PyProof.Rows
abbrev R2 := V → V → Hp → VK → Prop
def OpR (X : Cx) (f : Value → Value → Sem Value) (r : R2) : Prop :=
  ∀ (pins : List (Addr × Obj)) (s : Shared) (σ : St) (H : Hp) (x y : V) (v u : Value) (Q : VK), Inv X pins σ H s → RelV x v → RelV y u → r x y H Q →
    wpAny (model X.prog X.w) X.A (f v u) (EP X pins σ Q) X.xe s
def UnR (X : Cx) (f : Value → Sem Value) (r : V → Hp → VK → Prop) : Prop :=
  ∀ (pins : List (Addr × Obj)) (s : Shared) (σ : St) (H : Hp) (x : V) (v : Value) (Q : VK), Inv X pins σ H s → RelV x v → r x H Q →
    wpAny (model X.prog X.w) X.A (f v) (EP X pins σ Q) X.xe s
def CallR (X : Cx) (f : Value) (r : List V → Hp → VK → Prop) : Prop :=
  ∀ (pins : List (Addr × Obj)) (s : Shared) (σ : St) (H : Hp) (xs : List V) (us : List Value) (Q : VK), Inv X pins σ H s → Vals xs us → r xs H Q →
    wpAny (model X.prog X.w) X.A (call f us) (EP X pins σ Q) X.xe s
def tOp (r : R2) (ta tb : TE) : TE := fun σ H Q => ta σ H fun x H1 => tb σ H1 fun y H2 => r x y H2 Q
def tUn (r : V → Hp → VK → Prop) (ta : TE) : TE := fun σ H Q => ta σ H fun x H1 => r x H1 Q
def rI (C : Int → Int → Prop) (g : Int → Int → V) : R2 := fun x y H Q => ∃ i j, x = .int i ∧ y = .int j ∧ C i j ∧ Q (g i j) H
def rI0 (g : Int → Int → V) : R2 := fun x y H Q => ∃ i j, x = .int i ∧ y = .int j ∧ Q (g i j) H
def rU (g : Int → V) : V → Hp → VK → Prop := fun x H Q => ∃ i, x = .int i ∧ Q (g i) H
section
variable {X : Cx} {a b c : Expr} {ta tb tc : TE} {pos : Pos}
theorem binT (ha : PE X a ta) (hb : PE X b tb) {pins : List (Addr × Obj)} {s : Shared} {σ : St} {H : Hp} {R : V → V → Hp → Prop} (I : Inv X pins σ H s)
    (h : ta σ H fun x H1 => tb σ H1 fun y H2 => R x y H2) {Q : Value → Shared → Prop} {f : Value → Value → Sem Value}
    (hf : ∀ v u s2 x y H2, Inv X pins σ H2 s2 → RelV x v → RelV y u → R x y H2 → wpAny (model X.prog X.w) X.A (f v u) Q X.xe s2) :
    wpAny (model X.prog X.w) X.A (eval a X.env) (fun v s₁ => wpAny (model X.prog X.w) X.A (eval b X.env) (fun u s₂ => wpAny (model X.prog X.w) X.A (f v u) Q X.xe s₂) X.xe s₁) X.xe s := by
  refine thn (ha pins s σ H _ I h) fun v s1 ⟨x, H1, I1, r1, q1⟩ => ?_
  refine thn (hb pins s1 σ H1 _ I1 q1) fun u s2 ⟨y, H2, I2, r2, q2⟩ => ?_
  exact hf v u s2 x y H2 I2 r1 r2 q2
theorem pe_op {op : Operator} {r : R2} (ho : OpR X (binaryOp op) r) (ha : PE X a ta) (hb : PE X b tb) : PE X (.BinOp a op b pos) (tOp r ta tb) := by
  intro pins s σ H Q I h
  exact wpAny_BinOp (binT ha hb I h fun v u s2 x y H2 I2 rx ry q => ho pins s2 σ H2 x y v u Q I2 rx ry q)
theorem pe_un {op : UnaryOp} {r : V → Hp → VK → Prop} (ho : UnR X (unaryOp op) r) (ha : PE X a ta) : PE X (.UnaryOp op a pos) (tUn r ta) := by
  intro pins s σ H Q I h
  exact UnaryOp_ (thn (ha pins s σ H _ I h) fun v s1 ⟨x, H1, I1, r1, q1⟩ => ho pins s1 σ H1 x v Q I1 r1 q1)
theorem opI {f : Value → Value → Sem Value} {C : Int → Int → Prop} {g : Int → Int → Int}
    (rule : ∀ (i j : Int) (t u : Tok) (s : Shared) (Q : Value → Shared → Prop) (E : Value → Shared → Prop), C i j → Q (.int (g i j) s.toks) { s with toks := s.toks + 1 } → wpAny (model X.prog X.w) X.A (f (.int i t) (.int j u)) Q E s) :
    OpR X f (rI C fun i j => .int (g i j)) := by
  intro pins s σ H x y v u Q I rx ry h
  obtain ⟨i, j, rfl, rfl, hc, q⟩ := h
  obtain ⟨t, rfl⟩ := rx
  obtain ⟨t', rfl⟩ := ry
  exact rule i j t t' s _ _ hc ⟨.int (g i j), H, I.tok _, ⟨_, rfl⟩, q⟩
theorem opI0 {f : Value → Value → Sem Value} {g : Int → Int → Int}
    (rule : ∀ (i j : Int) (t u : Tok) (s : Shared) (Q : Value → Shared → Prop) (E : Value → Shared → Prop), Q (.int (g i j) s.toks) { s with toks := s.toks + 1 } → wpAny (model X.prog X.w) X.A (f (.int i t) (.int j u)) Q E s) :
    OpR X f (rI0 fun i j => .int (g i j)) := by
  intro pins s σ H x y v u Q I rx ry h
  obtain ⟨i, j, rfl, rfl, q⟩ := h
  obtain ⟨t, rfl⟩ := rx
  obtain ⟨t', rfl⟩ := ry
  exact rule i j t t' s _ _ ⟨.int (g i j), H, I.tok _, ⟨_, rfl⟩, q⟩
theorem opB0 {f : Value → Value → Sem Value} {g : Int → Int → Bool}
    (rule : ∀ (i j : Int) (t u : Tok) (s : Shared) (Q : Value → Shared → Prop) (E : Value → Shared → Prop), Q (.bool (g i j)) s → wpAny (model X.prog X.w) X.A (f (.int i t) (.int j u)) Q E s) :
    OpR X f (rI0 fun i j => .bl (g i j)) := by
  intro pins s σ H x y v u Q I rx ry h
  obtain ⟨i, j, rfl, rfl, q⟩ := h
  obtain ⟨t, rfl⟩ := rx
  obtain ⟨t', rfl⟩ := ry
  exact rule i j t t' s _ _ ⟨.bl (g i j), H, I, rfl, q⟩
def CDiv (i j : Int) : Prop := 0 < j ∧ j < 1073741824
def CPow (i j : Int) : Prop := 0 ≤ j ∧ j ≤ 1000000 ∧ i.natAbs < 2 ^ 64
def CMul (i j : Int) : Prop := (-(2 ^ 64) < i ∧ i < 2 ^ 64) ∨ (-(2 ^ 64) < j ∧ j < 2 ^ 64)
theorem CMul.ok {i j : Int} (h : CMul i j) : IntMulOk i j := by
  rcases h with ⟨h1, h2⟩ | ⟨h1, h2⟩
  · exact .of_left (intBits_le_64 h1 h2)
  · exact .of_right (intBits_le_64 h1 h2)
theorem two_pow_nn (k : Nat) : (0 : Int) ≤ 2 ^ k := by
  rw [two_pow_cast]
  exact Int.natCast_nonneg _
theorem op_add : OpR X (binaryOp .Add) (rI0 fun i j => .int (i + j)) := opI0 fun _ _ _ _ _ _ _ q => add_int q
theorem op_sub : OpR X (binaryOp .Sub) (rI0 fun i j => .int (i - j)) := opI0 fun _ _ _ _ _ _ _ q => sub_int q
theorem op_mul : OpR X (binaryOp .Mult) (rI CMul fun i j => .int (i * j)) := opI fun _ _ _ _ _ _ _ hc q => mul_int q hc.ok
theorem op_fdiv : OpR X (binaryOp .FloorDiv) (rI CDiv fun i j => .int (i / j)) := opI fun i j _ _ _ _ _ hc q => by
  have h1 : (0 : Int) < j := hc.1
  have h2 : j < 1073741824 := hc.2
  exact floordiv_int (by omega) (by rw [Int.fdiv_eq_ediv_of_nonneg i (by omega)]; exact q) (.inl (PyProof.noPylong_small (by omega)))
theorem op_mod : OpR X (binaryOp .Mod) (rI (fun _ j => 0 < j) fun i j => .int (i % j)) := opI fun i j _ _ _ _ _ hc q => by
  have h1 : (0 : Int) < j := hc
  exact mod_int' (by omega) (by rw [Int.fmod_eq_emod_of_nonneg i (by omega)]; exact q)
theorem op_pow : OpR X (binaryOp .Pow) (rI CPow fun i j => .int (i ^ j.toNat)) := opI fun _ _ _ _ _ _ _ hc q => pow_int_small hc.1 hc.2.1 hc.2.2 q
theorem op_shl : OpR X (binaryOp .LShift) (rI CPow fun i j => .int (i * 2 ^ j.toNat)) := opI fun _ _ _ _ _ _ _ hc q => lshift_int_small hc.1 hc.2.1 hc.2.2 q
theorem op_shr : OpR X (binaryOp .RShift) (rI (fun _ j => 0 ≤ j) fun i j => .int (i / 2 ^ j.toNat)) := opI fun i j _ _ _ _ _ hc q =>
  rshift_int hc (by rw [Int.fdiv_eq_ediv_of_nonneg i (two_pow_nn _)]; exact q)
theorem op_and : OpR X (binaryOp .BitAnd) (rI0 fun i j => .int (Builtin.bitAnd i j)) := opI0 fun _ _ _ _ _ _ _ q => and_int q
theorem op_or : OpR X (binaryOp .BitOr) (rI0 fun i j => .int (Builtin.bitOr i j)) := opI0 fun _ _ _ _ _ _ _ q => or_int q
theorem unI {f : Value → Sem Value} {g : Int → Int}
    (rule : ∀ (i : Int) (t : Tok) (s : Shared) (Q : Value → Shared → Prop) (E : Value → Shared → Prop), Q (.int (g i) s.toks) { s with toks := s.toks + 1 } → wpAny (model X.prog X.w) X.A (f (.int i t)) Q E s) :
    UnR X f (rU fun i => .int (g i)) := by
  intro pins s σ H x v Q I rx h
  obtain ⟨i, rfl, q⟩ := h
  obtain ⟨t, rfl⟩ := rx
  exact rule i t s _ _ ⟨.int (g i), H, I.tok _, ⟨_, rfl⟩, q⟩
theorem un_neg : UnR X (unaryOp .USub) (rU fun i => .int (-i)) := unI fun _ _ _ _ _ q => neg_int q
end
def scal : V → V → Bool
  | .non, .non => true | .non, .int _ => true | .int _, .non => true | .non, .bl _ => true | .bl _, .non => true | .non, .str _ => true | .str _, .non => true
  | .int _, .int _ => true | .bl _, .bl _ => true | .str _, .str _ => true | .byt _, .byt _ => true
  | .int _, .str _ => true | .str _, .int _ => true | .bl _, .str _ => true | .str _, .bl _ => true
  | _, _ => false
def rEq : R2 := fun x y H Q => scal x y = true ∧ Q (.bl (decide (x = y))) H
def rNe : R2 := fun x y H Q => scal x y = true ∧ Q (.bl (!decide (x = y))) H
theorem dec_int {i j : Int} : decide (V.int i = V.int j) = (i == j) := by
  rw [Bool.eq_iff_iff]
  simp
theorem dec_bl {i j : Bool} : decide (V.bl i = V.bl j) = (i == j) := by
  rw [Bool.eq_iff_iff]
  simp
theorem dec_str {i j : Str} : decide (V.str i = V.str j) = (i == j) := by
  rw [Bool.eq_iff_iff]
  simp
theorem dec_byt {i j : Array UInt8} : decide (V.byt i = V.byt j) = (i.toList == j.toList) := by
  rw [Bool.eq_iff_iff]
  cases i
  cases j
  simp
section
variable {X : Cx} {a b c : Expr} {ta tb tc : TE} {pos : Pos}
theorem fin_bl {pins : List (Addr × Obj)} {σ : St} {H : Hp} {s : Shared} {Q : VK} {k k' : Bool} (I : Inv X pins σ H s) (q : Q (.bl k) H) (e : k = k') : EP X pins σ Q (.bool k') s := by
  subst e
  exact ⟨.bl k, H, I, rfl, q⟩
theorem op_eq : OpR X (compareOp .Eq) rEq := by
  intro pins s σ H x y v u Q I rx ry h
  obtain ⟨hs, q⟩ := h
  cases x with
  | non =>
    cases rx
    cases y with
    | non => cases ry; exact PySem.EqNone.eq_none_none (fin_bl I q (by simp))
    | bl j => cases ry; exact PySem.EqNone.eq_none_bool (fin_bl I q (by simp))
    | int j => obtain ⟨t', rfl⟩ := ry; exact PySem.EqNone.eq_none_int (fin_bl I q (by simp))
    | str j => obtain ⟨t', rfl⟩ := ry; exact PySem.EqNone.eq_none_str (fin_bl I q (by simp))
    | _ => exact absurd (show false = true from hs) Bool.false_ne_true
  | bl i =>
    cases rx
    cases y with
    | non => cases ry; exact PySem.EqNone.eq_bool_none (fin_bl I q (by simp))
    | bl j => cases ry; exact eq_bool (fin_bl I q dec_bl)
    | str j => obtain ⟨t', rfl⟩ := ry; exact PySem.EqMixed.eq_bool_str (fin_bl I q (by simp))
    | _ => exact absurd (show false = true from hs) Bool.false_ne_true
  | int i =>
    obtain ⟨t, rfl⟩ := rx
    cases y with
    | non => cases ry; exact PySem.EqNone.eq_int_none (fin_bl I q (by simp))
    | int j => obtain ⟨t', rfl⟩ := ry; exact eq_int (fin_bl I q dec_int)
    | str j => obtain ⟨t', rfl⟩ := ry; exact PySem.EqMixed.eq_int_str (fin_bl I q (by simp))
    | _ => exact absurd (show false = true from hs) Bool.false_ne_true
  | str i =>
    obtain ⟨t, rfl⟩ := rx
    cases y with
    | non => cases ry; exact PySem.EqNone.eq_str_none (fin_bl I q (by simp))
    | bl j => cases ry; exact PySem.EqMixed.eq_str_bool (fin_bl I q (by simp))
    | int j => obtain ⟨t', rfl⟩ := ry; exact PySem.EqMixed.eq_str_int (fin_bl I q (by simp))
    | str j => obtain ⟨t', rfl⟩ := ry; exact eq_str (fin_bl I q dec_str)
    | _ => exact absurd (show false = true from hs) Bool.false_ne_true
  | byt i =>
    obtain ⟨t, rfl⟩ := rx
    cases y with
    | byt j => obtain ⟨t', rfl⟩ := ry; exact PySem.W.eq_bytes (fin_bl I q dec_byt)
    | _ => exact absurd (show false = true from hs) Bool.false_ne_true
  | _ => cases y <;> exact absurd (show false = true from hs) Bool.false_ne_true
theorem op_ne : OpR X (compareOp .NotEq) rNe := by
  intro pins s σ H x y v u Q I rx ry h
  obtain ⟨hs, q⟩ := h
  cases x with
  | non =>
    cases rx
    cases y with
    | non => cases ry; exact PySem.EqNone.ne_none_none (fin_bl I q (by simp))
    | bl j => cases ry; exact PySem.EqNone.ne_none_bool (fin_bl I q (by simp))
    | int j => obtain ⟨t', rfl⟩ := ry; exact PySem.EqNone.ne_none_int (fin_bl I q (by simp))
    | str j => obtain ⟨t', rfl⟩ := ry; exact PySem.EqNone.ne_none_str (fin_bl I q (by simp))
    | _ => exact absurd (show false = true from hs) Bool.false_ne_true
  | bl i =>
    cases rx
    cases y with
    | non => cases ry; exact PySem.EqNone.ne_bool_none (fin_bl I q (by simp))
    | bl j => cases ry; exact ne_bool (fin_bl I q (congrArg not dec_bl))
    | str j => obtain ⟨t', rfl⟩ := ry; exact PySem.EqMixed.ne_bool_str (fin_bl I q (by simp))
    | _ => exact absurd (show false = true from hs) Bool.false_ne_true
  | int i =>
    obtain ⟨t, rfl⟩ := rx
    cases y with
    | non => cases ry; exact PySem.EqNone.ne_int_none (fin_bl I q (by simp))
    | int j => obtain ⟨t', rfl⟩ := ry; exact ne_int (fin_bl I q (congrArg not dec_int))
    | str j => obtain ⟨t', rfl⟩ := ry; exact PySem.EqMixed.ne_int_str (fin_bl I q (by simp))
    | _ => exact absurd (show false = true from hs) Bool.false_ne_true
  | str i =>
    obtain ⟨t, rfl⟩ := rx
    cases y with
    | non => cases ry; exact PySem.EqNone.ne_str_none (fin_bl I q (by simp))
    | bl j => cases ry; exact PySem.EqMixed.ne_str_bool (fin_bl I q (by simp))
    | int j => obtain ⟨t', rfl⟩ := ry; exact PySem.EqMixed.ne_str_int (fin_bl I q (by simp))
    | str j => obtain ⟨t', rfl⟩ := ry; exact ne_str (fin_bl I q (congrArg not dec_str))
    | _ => exact absurd (show false = true from hs) Bool.false_ne_true
  | byt i =>
    obtain ⟨t, rfl⟩ := rx
    cases y with
    | byt j => obtain ⟨t', rfl⟩ := ry; exact PySem.W.ne_bytes (fin_bl I q (congrArg not dec_byt))
    | _ => exact absurd (show false = true from hs) Bool.false_ne_true
  | _ => cases y <;> exact absurd (show false = true from hs) Bool.false_ne_true
theorem op_lt : OpR X (compareOp .Lt) (rI0 fun i j => .bl (decide (i < j))) := opB0 fun _ _ _ _ _ _ _ q => lt_int q
theorem op_le : OpR X (compareOp .LtE) (rI0 fun i j => .bl (decide (i ≤ j))) := opB0 fun _ _ _ _ _ _ _ q => le_int q
theorem op_ge : OpR X (compareOp .GtE) (rI0 fun i j => .bl (decide (j ≤ i))) := opB0 fun _ _ _ _ _ _ _ q => ge_int q
theorem op_isN : OpR X (compareOp .Is) (fun x y H Q => y = .non ∧ Q (.bl (decide (x = .non))) H) := by
  intro pins s σ H x y v u Q I rx ry h
  obtain ⟨rfl, q⟩ := h
  cases ry
  refine is_none_gen (fin_bl I q ?_)
  cases x <;> first
    | (cases rx; rfl)
    | (obtain ⟨t, rfl⟩ := rx; rfl)
theorem OpR.or {f : Value → Value → Sem Value} {r r' : R2} (h : OpR X f r) (h' : OpR X f r') : OpR X f (fun x y H Q => r x y H Q ∨ r' x y H Q) := by
  intro pins s σ H x y v u Q I rx ry q
  rcases q with q | q
  · exact h pins s σ H x y v u Q I rx ry q
  · exact h' pins s σ H x y v u Q I rx ry q
theorem nomark (b : Expr) {op : CmpOp} (h : op ≠ .In := by decide) (h2 : op ≠ .NotIn := by decide) : behindInMarks op b = false := by
  have e1 : (op == CmpOp.In) = false := by cases op <;> first | rfl | exact absurd rfl h
  have e2 : (op == CmpOp.NotIn) = false := by cases op <;> first | rfl | exact absurd rfl h2
  cases b <;> simp [behindInMarks, e1, e2]
theorem pe_cmpR {op : CmpOp} {r : R2} (ho : OpR X (compareOp op) r) (ha : PE X a ta) (hb : PE X b tb) (hm : behindInMarks op b = false) : PE X (.Compare a [op] [b] pos) (tOp r ta tb) := by
  intro pins s σ H Q I h
  exact wpAny_Compare1 (binT ha hb I h fun v u s2 x y H2 I2 rx ry q => ho pins s2 σ H2 x y v u Q I2 rx ry q) hm
def tTest (t : TE) : TT := fun σ H Q => t σ H fun x H' => ∃ k, x = .bl k ∧ Q k H'
theorem pt_cmpR {op : CmpOp} {r : R2} (ho : OpR X (compareOp op) r) (ha : PE X a ta) (hb : PE X b tb) (hm : behindInMarks op b = false) : PT X (.Compare a [op] [b] pos) (tTest (tOp r ta tb)) := by
  intro pins s σ H Q I h
  refine wpAny_isTrue_Compare1 (thn (ha pins s σ H _ I h) fun v s1 ⟨x, H1, I1, r1, q1⟩ => thn (hb pins s1 σ H1 _ I1 q1) fun u s2 ⟨y, H2, I2, r2, q2⟩ =>
    thn (ho pins s2 σ H2 x y v u _ I2 r1 r2 q2) fun c s3 ⟨z, H3, I3, r3, k, e, q3⟩ => ?_) hm
  subst e
  cases r3
  exact wpAny_truthy_bool ⟨H3, I3, q3⟩
def tChain (r r' : R2) (ta tb tc : TE) : TE := fun σ H Q => ta σ H fun x H1 => tb σ H1 fun y H2 => r x y H2 fun z H3 => ∃ k, z = .bl k ∧
  (if k = true then tc σ H3 fun w' H4 => r' y w' H4 Q else Q (.bl false) H3)
theorem pt_chain {op op' : CmpOp} {r r' : R2} (ho : OpR X (compareOp op) r) (ho' : OpR X (compareOp op') r') (ha : PE X a ta) (hb : PE X b tb) (hc : PE X c tc)
    (hm : lastMarks [op, op'] [b, c] = false := by with_unfolding_all rfl) : PT X (.Compare a [op, op'] [b, c] pos) (tTest (tChain r r' ta tb tc)) := by
  intro pins s σ H Q I h
  refine isTrue_chain (thn (ha pins s σ H _ I h) fun v s1 ⟨x, H1, I1, r1, q1⟩ => test_link (thn (hb pins s1 σ H1 _ I1 q1) fun u s2 ⟨y, H2, I2, r2, q2⟩ =>
    thn (ho pins s2 σ H2 x y v u _ I2 r1 r2 q2) fun d s3 ⟨z, H3, I3, r3, k, e, q3⟩ => ?_)) hm
  subst e
  cases r3
  refine wpAny_truthy_bool ?_
  cases k with
  | false =>
    obtain ⟨k', e', q'⟩ := q3
    cases e'
    exact ite_ff ⟨H3, I3, q'⟩
  | true =>
    refine ite_tt (test_last (thn (hc pins s3 σ H3 _ I3 q3) fun w' s4 ⟨z', H4, I4, r4, q4⟩ => thn (ho' pins s4 σ H4 y z' u w' _ I4 r2 r4 q4) fun d' s5 ⟨z2, H5, I5, r5, k2, e2, q5⟩ => ?_))
    subst e2
    cases r5
    exact wpAny_truthy_bool ⟨H5, I5, q5⟩
theorem line63 : (sizeLine : Nat) < 2 ^ 63 := by rw [sizeLine_eq]; decide
theorem op_add_str : OpR X (binaryOp .Add) (fun x y H Q => ∃ i j, x = .str i ∧ y = .str j ∧ i.length + j.length ≤ sizeLine ∧ Q (.str (i ++ j)) H) := by
  intro pins s σ H x y v u Q I rx ry h
  obtain ⟨i, j, rfl, rfl, hz, q⟩ := h
  obtain ⟨t, rfl⟩ := rx
  obtain ⟨t', rfl⟩ := ry
  exact add_str (fun t' tk => ⟨.str (i ++ j), H, I.tok _, ⟨_, rfl⟩, q⟩) hz
theorem vals1 {x : V} {us : List Value} (r : Vals [x] us) : ∃ u, us = [u] ∧ RelV x u := by
  cases r with
  | cons r1 r2 => cases r2; exact ⟨_, rfl, r1⟩
theorem vals2 {x y : V} {us : List Value} (r : Vals [x, y] us) : ∃ u w', us = [u, w'] ∧ RelV x u ∧ RelV y w' := by
  cases r with
  | cons r1 r2 =>
    cases r2 with
    | cons r3 r4 => cases r4; exact ⟨_, _, rfl, r1, r3⟩
end
end L2
namespace L2
open PySem PySem.Spec PyProof.Rows
structure Room (k : Nat) (A : Around) : Prop where
  hd : A.handled = none
  dp : A.depth + 3 * k + 5 < recursionLimit
  un : A.units + 16 * k + 200 < cLine
theorem Room.mono {j k : Nat} {A : Around} (r : Room k A) (h : j ≤ k) : Room j A := ⟨r.hd, by have := r.dp; omega, by have := r.un; omega⟩
theorem Room.deeper {k : Nat} {A : Around} (r : Room (k + 1) A) (env : Env) : Room k (A.deeper env) :=
  ⟨r.hd, by have := r.dp; show A.depth + 1 + 3 * k + 5 < _; omega, by have := r.un; show A.units + 3 + 16 * k + 200 < _; omega⟩
theorem Room.depth {k : Nat} {A : Around} (r : Room k A) : A.depth < recursionLimit := by have := r.dp; omega
theorem Room.units {k : Nat} {A : Around} (r : Room k A) : A.units + 64 < cLine := by have := r.un; omega
def tNil : TA := fun _ H Q => Q [] H
def tCons (ta : TE) (tr : TA) : TA := fun σ H Q => ta σ H fun x H1 => tr σ H1 fun xs H2 => Q (x :: xs) H2
section
variable {X : Cx} {e : Expr} {es : List Expr} {te : TE} {t : TA} {pos : Pos}
theorem pa_nil : PA X [] tNil := fun _ _ _ _ H Q I h => Calls.spliced_nil ⟨[], H, I, .nil, h⟩
theorem pa_cons (ha : PE X e te) (hr : PA X es t) (hs : starEach (e :: es) X.env = (false, eval e X.env) :: starEach es X.env := by rfl) : PA X (e :: es) (tCons te t) := by
  intro pos pins s σ H Q I h
  rw [hs]
  show wpAny _ _ (spliced ((false, eval e X.env) :: backTo pos (starEach es X.env))) _ _ s
  refine Calls.spliced_cons (thn (ha pins s σ H _ I h) fun u s1 ⟨x, H1, I1, r1, q1⟩ => ?_)
  exact thn (hr pos pins s1 σ H1 _ I1 q1) fun us s2 ⟨xs, H2, I2, r2, q2⟩ => ⟨x :: xs, H2, I2, .cons r1 r2, q2⟩
def tTup (t : TA) : TE := fun σ H Q => t σ H fun xs H1 => xs.length ≤ sizeLine ∧ ∀ p, H1 p = none → Q (.ref p) (upd H1 p (.tup xs))
def tLst (t : TA) : TE := fun σ H Q => t σ H fun xs H1 => xs.length ≤ sizeLine ∧ ∀ p, H1 p = none → Q (.ref p) (upd H1 p (.lst xs))
theorem pe_tup {x1} (h : PA X es t) : PE X (.Tuple es x1 pos) (tTup t) := by
  intro pins s σ H Q I hq
  refine wpAny_Tuple_spliced (thn (h pos pins s σ H _ I hq) fun us s1 ⟨xs, H1, I1, r, z, q⟩ => ⟨by rw [← r.length]; exact z, ?_⟩)
  have hf : H1 s1.heap.objs.size = none := I1.hok.fresh (Nat.le_refl _)
  refine ⟨.ref s1.heap.objs.size, upd H1 s1.heap.objs.size (.tup xs), I1.laid (t' := s1.toks) (fun b u e => Heap.get?_push_of_some _ e) (Nat.le_refl _) ?_, rfl, q _ hf⟩
  exact ⟨⟨z, NoD.new⟩, us, r, ⟨_, Heap.get?_push_size _ rfl, rfl, _, rfl⟩⟩
theorem pe_lst (h : PA X es t) : PE X (.List es pos) (tLst t) := by
  intro pins s σ H Q I hq
  refine wpAny_List_spliced (thn (h pos pins s σ H _ I hq) fun us s1 ⟨xs, H1, I1, r, z, q⟩ => ⟨by rw [← r.length]; exact z, ?_⟩)
  have hf : H1 s1.heap.objs.size = none := I1.hok.fresh (Nat.le_refl _)
  refine ⟨.ref s1.heap.objs.size, upd H1 s1.heap.objs.size (.lst xs), I1.laid (t' := s1.toks) (fun b u e => Heap.get?_push_of_some _ e) (Nat.le_refl _) ?_, rfl, q _ hf⟩
  exact ⟨z, us, 0, r, Heap.get?_push_size _ rfl⟩
end
abbrev Sp := List V → Hp → VK → XK → Prop
abbrev CXT := List Env → Hp → Shared → XK → Value → Shared → Prop
structure Env0 (P : Program) (w : World) (K : PySem.W.Frag) (mg : Str → Option Value) (base : Heap) (A : Around) (outer : List Env) (s : Shared) (H : Hp) : Prop where
  frames : A.frames = some outer
  mod : Mod K mg base
  bs : ∀ b o, base.get? b = some o → s.heap.get? b = some o ∧ H b = none
  bsz : base.objs.size ≤ s.heap.objs.size
  funs : s.heap.FunFrames base outer
  frf : ∀ b ∈ frs outer, H b = none
  hok : HOk P w H s.heap
  bare : AllBare s.gens
def CE (outer : List Env) (P : Program) (w : World) (H : Hp) (s : Shared) (Q : VK) (u : Value) (s' : Shared) : Prop :=
  ∃ v H', s'.os = s.os ∧ AllBare s'.gens ∧ Un (frs outer) [] H H' s.heap s'.heap ∧ HOk P w H' s'.heap ∧ RelV v u ∧ Q v H'
def CR (CX : CXT) (outer : List Env) (P : Program) (w : World) (H : Hp) (s : Shared) (Q : VK) (E : XK) (r : Result) (s' : Shared) : Prop :=
  match r with
  | .ok (.ret u) => CE outer P w H s Q u s'
  | .ok _ => False
  | .error e => CX outer H s E e s'
structure FnOk (P : Program) (w : World) (K : PySem.W.Frag) (mg : Str → Option Value) (base : Heap) (CX : CXT) (k : Nat) (f : Addr) (fd : FuncData) (ps : List Str) (sp : Sp) : Prop where
  len : ∀ vs H Q E, sp vs H Q E → vs.length = ps.length
  run : ∀ (A : Around) (outer : List Env) (s : Shared) (H : Hp) (args : Args) (us : List Value) (vs : List V) (Q : VK) (E : XK), Room k A → Env0 P w K mg base A outer s H → BindsTo s fd args (ps.zip us) → Vals vs us → sp vs H Q E →
    codeAny (model P w) A (.call (.ref f) args) (CR CX outer P w H s Q E) s
theorem FnOk.mono {P : Program} {w : World} {K : PySem.W.Frag} {mg : Str → Option Value} {base : Heap} {CX : CXT} {j k : Nat} {f : Addr} {fd : FuncData} {ps : List Str} {sp : Sp} (F : FnOk P w K mg base CX j f fd ps sp) (h : j ≤ k) :
    FnOk P w K mg base CX k f fd ps sp := ⟨F.len, fun A outer s H args us vs Q E hr => F.run A outer s H args us vs Q E (hr.mono h)⟩
section
variable {X : Cx} {pins : List (Addr × Obj)} {σ : St} {H : Hp} {s s' : Shared}
theorem Inv.env0 (I : Inv X pins σ H s) : Env0 X.prog X.w X.K X.mg X.base X.A X.stack s H :=
  ⟨I.ok.frames, I.ok.mod, I.bs, Nat.le_trans I.ok.bsz I.sz, I.stack, I.stkFree, I.hok, I.bare⟩
theorem Inv.after {Q : VK} {u : Value} (I : Inv X pins σ H s) (h : CE X.stack X.prog X.w H s Q u s') : EP X pins σ Q u s' := by
  obtain ⟨v, H', os, bare, un, hok, r, q⟩ := h
  obtain ⟨hh, g, d, t, os'⟩ := s'
  obtain rfl : os' = s.os := os
  exact ⟨v, H', I.call (h' := hh) (g' := g) (d' := d) (t' := t) (ch := []) un hok bare (fun b z => absurd z (by simp)), r, q⟩
end
def tCall (sp : Sp) (dvs : List V) (E : XK) (t : TA) : TE := fun σ H Q => t σ H fun vs H1 => sp (vs ++ dvs) H1 Q E
def Binds (K : PySem.W.Frag) (fd : FuncData) (ps : List Str) (ds : List Value) : Prop :=
  ∀ (s : Shared) (us : List Value), K.In s.heap → (us ++ ds).length = ps.length → BindsTo s fd ⟨us, []⟩ (ps.zip (us ++ ds))
theorem Binds.all {K : PySem.W.Frag} {fd : FuncData} {ps : List Str} (h : ∀ us : List Value, us.length = ps.length → bindArgs fd ⟨us, []⟩ = pure (ps.zip us)) : Binds K fd ps [] := fun s us _ hl => by
  rw [List.append_nil] at hl ⊢
  exact .of_eq (h us hl)
def Passes (CX : CXT) (X : Cx) (E : XK) : Prop := ∀ (pins : List (Addr × Obj)) (σ : St) (H : Hp) (s : Shared) (e : Value) (s' : Shared), Inv X pins σ H s → CX X.stack H s E e s' → X.xe e s'
section
variable {X : Cx} {CX : CXT} {k : Nat} {f C : Addr} {fd : FuncData} {ps : List Str} {sp : Sp} {dvs : List V} {ds : List Value} {E : XK} {x m : Str} {p pos apos : Pos} {e o : Expr} {es : List Expr} {ta : TE} {t : TA}
theorem run_fn {pins : List (Addr × Obj)} {σ : St} {H : Hp} {s : Shared} {Q : VK} {us : List Value} {vs : List V} (F : FnOk X.prog X.w X.K X.mg X.base CX k f fd ps sp) (hr : Room k X.A) (hb : Binds X.K fd ps ds) (hd : Vals dvs ds) (hx : Passes CX X E)
    (I : Inv X pins σ H s) (r : Vals vs us) (h : sp (vs ++ dvs) H Q E) : wpAny (model X.prog X.w) X.A (call (.ref f) us) (EP X pins σ Q) X.xe s := by
  have r2 : Vals (vs ++ dvs) (us ++ ds) := r.append hd
  have hl : (us ++ ds).length = ps.length := by rw [← r2.length]; exact F.len _ _ _ _ h
  refine wpAny_call (codeAny_mono (F.run X.A X.stack s H ⟨us, []⟩ (us ++ ds) (vs ++ dvs) Q E hr I.env0 (hb s us I.kIn hl) r2 h) fun r s' hq => ?_)
  cases r with
  | error e => exact hx pins σ H s e s' I hq
  | ok fl =>
    cases fl with
    | ret u => exact I.after hq
    | next => exact False.elim hq
    | brk => exact False.elim hq
    | cont => exact False.elim hq
theorem pe_call (F : FnOk X.prog X.w X.K X.mg X.base CX k f fd ps sp) (hr : Room k X.A) (hg : Gl X x) (hm : X.mg x = some (.ref f)) (hk : PySem.W.keepIn X.K (.ref f) = true) (hb : Binds X.K fd ps ds) (hd : Vals dvs ds) (hx : Passes CX X E)
    (ha : PA X (e :: es) t) (hdb : (x == ("__debug__" : Str)) = false := by decide) (he : starEach (e :: es) X.env = (false, eval e X.env) :: starEach es X.env := by rfl) (hpl : (backTo pos (starEach es X.env)).any (·.1) = false := by rfl) :
    PE X (.Call (.Name x p) (e :: es) [] pos) (tCall sp dvs E t) := by
  intro pins s σ H Q I h
  refine wpAny_Call_Name_kw (ld_glob I hg hm ?_ hdb)
  refine PySem.W.callWith_K (h₀ := X.base) I.ok.mod.kin hk (thn (ha pos pins s σ H _ I h) fun us s1 ⟨vs, H1, I1, r, q⟩ => ⟨I1.kIn, ?_⟩) he hpl
  exact run_fn F hr hb hd hx I1 r q
end
structure FnScope (N P : List Str) (sc : Scope) : Prop where
  kind : sc.kind = .function
  co : sc.isCoroutine = false
  gen : sc.isGenerator = false
  nd : N.Nodup
  pre : N.take P.length = P
  par : ∀ x ∈ P, sc.names.lookup x = some .local ∨ sc.names.lookup x = some .cell
  nofree : ∀ y ∈ sc.names, y.2 ≠ .free
theorem bindL_out {kindOf : Str → Option NameKind} {x : Str} : ∀ {binds : List (Str × Value)} {m : Str → Option Value}, (∀ v, (x, v) ∉ binds) → bindL kindOf binds m x = m x
  | [], _, _ => rfl
  | (n, v) :: r, m, h => by
    unfold bindL
    rw [bindL_out fun w hw => h w (List.mem_cons_of_mem _ hw)]
    split
    · have : x ≠ n := by rintro rfl; exact h v List.mem_cons_self
      simp [this]
    · rfl
theorem bindC_out {kindOf : Str → Option NameKind} {x : Str} : ∀ {binds : List (Str × Value)} {m : Str → Option Value}, (∀ v, (x, v) ∉ binds) → bindC kindOf binds m x = m x
  | [], _, _ => rfl
  | (n, v) :: r, m, h => by
    unfold bindC
    rw [bindC_out fun w hw => h w (List.mem_cons_of_mem _ hw)]
    split
    · rfl
    · have : x ≠ n := by rintro rfl; exact h v List.mem_cons_self
      simp [this]
theorem bindL_get {kindOf : Str → Option NameKind} {x : Str} {v : Value} : ∀ {P : List Str} {vs : List Value} {i : Nat} {m : Str → Option Value}, P.Nodup → P[i]? = some x → vs[i]? = some v → kindOf x = some .local →
    bindL kindOf (P.zip vs) m x = some v
  | [], _, _, _, _, h, _, _ => by simp at h
  | _ :: _, [], _, _, _, _, h, _ => by simp at h
  | p :: P, w :: vs, 0, m, nd, h1, h2, hk => by
    simp at h1 h2; subst h1; subst h2
    show bindL kindOf ((p, w) :: P.zip vs) m p = _
    unfold bindL
    rw [bindL_out fun v hv => (List.nodup_cons.mp nd).1 (List.of_mem_zip hv).1, if_pos hk]
    simp
  | p :: P, w :: vs, i + 1, m, nd, h1, h2, hk => by
    show bindL kindOf ((p, w) :: P.zip vs) m x = _
    unfold bindL
    exact bindL_get (i := i) (List.nodup_cons.mp nd).2 (by simpa using h1) (by simpa using h2) hk
theorem bindC_get {kindOf : Str → Option NameKind} {x : Str} {v : Value} : ∀ {P : List Str} {vs : List Value} {i : Nat} {m : Str → Option Value}, P.Nodup → P[i]? = some x → vs[i]? = some v → kindOf x ≠ some .local →
    bindC kindOf (P.zip vs) m x = some v
  | [], _, _, _, _, h, _, _ => by simp at h
  | _ :: _, [], _, _, _, _, h, _ => by simp at h
  | p :: P, w :: vs, 0, m, nd, h1, h2, hk => by
    simp at h1 h2; subst h1; subst h2
    show bindC kindOf ((p, w) :: P.zip vs) m p = _
    unfold bindC
    rw [bindC_out fun v hv => (List.nodup_cons.mp nd).1 (List.of_mem_zip hv).1, if_neg hk]
    simp
  | p :: P, w :: vs, i + 1, m, nd, h1, h2, hk => by
    show bindC kindOf ((p, w) :: P.zip vs) m x = _
    unfold bindC
    exact bindC_get (i := i) (List.nodup_cons.mp nd).2 (by simpa using h1) (by simpa using h2) hk
def start (N : List Str) (vs : List V) : St := vs.map some ++ List.replicate (N.length - vs.length) none
def cxOf (CX : CXT) (P : Program) (w : World) (K : PySem.W.Frag) (mg : Str → Option Value) (base : Heap) (N : List Str) (qual : Str) (scope : Scope) (f : Addr) (cd : Value) (A : Around) (outer : List Env) (s : Shared) (H : Hp) (E : XK) : Cx where
  prog := P
  w := w
  K := K
  mg := mg
  base := base
  A := A.deeper (envOfC qual scope s.heap.objs.size f cd)
  N := N
  s₀ := s
  H₀ := H
  env := envOfC qual scope s.heap.objs.size f cd
  outer := outer
  stack := envOfC qual scope s.heap.objs.size f cd :: outer
  ex := []
  calm := true
  fn := fun _ => true
  pn := []
  xe := fun e s' => wpAny (model P w) (A.deeper (envOfC qual scope s.heap.objs.size f cd)) (leaving (envOfC qual scope s.heap.objs.size f cd) e) (fun _ s'' => CX outer H s E e s'') (fun e' s'' => CX outer H s E e' s'') s'
theorem cell_has {sc : Scope} {n : Nat} {x : Str} (h : sc.names.lookup x = some .cell) : ∃ c, (cellsFrom n sc.names []).lookup x = some c := by
  have q := PySem.W.cellsFrom_some sc.names n [] (.inl h)
  exact Option.isSome_iff_exists.mp q
theorem inv_start {CX : CXT} {P : Program} {w : World} {K : PySem.W.Frag} {mg : Str → Option Value} {base : Heap} {N ps : List Str} {qual : Str} {scope : Scope} {f : Addr} {cd : Value} {A : Around} {outer : List Env} {s s1 : Shared} {H : Hp} {E : XK} {us : List Value} {vs : List V}
    (S : FnScope N ps scope) (hd : A.handled = none) (e0 : Env0 P w K mg base A outer s H) (hl : vs.length = ps.length) (r : Vals vs us)
    (x : InCallC s s.heap.objs.size (bindL (envOfC qual scope s.heap.objs.size f cd).kindOf (ps.zip us) fun _ => none) (cellsFrom (s.heap.objs.size + 1) scope.names []) (bindC (envOfC qual scope s.heap.objs.size f cd).kindOf (ps.zip us) fun _ => none) s1) :
    Inv (cxOf CX P w K mg base N qual scope f cd A outer s H E) [] (start N vs) H s1 := by
  have hpl : ps.length ≤ N.length := by have := congrArg List.length S.pre; rw [List.length_take] at this; omega
  obtain ⟨h1, tk, rfl, hk⟩ := x.done
  have noA : ∀ b : Addr, b ∉ (cxOf CX P w K mg base N qual scope f cd A outer s H E).ex := fun b z => absurd (show b ∈ ([] : List Addr) from z) (by simp)
  refine ⟨⟨e0.mod, S.kind, rfl, rfl, Nat.le_refl _, fun y z c h1 h2 => ?_, fun y hy => ?_, fun y c _ h => ?_, fun _ => hd, Around.frames_deeper e0.frames, .inr ⟨rfl, rfl⟩, fun b z => absurd z (noA b), e0.bs, e0.bsz, fun b _ _ => noA b, fun b z => absurd z (noA b), e0.funs, e0.frf⟩,
    rfl, e0.bare, Un.kept hk, ⟨_, x.toInCall.ns, fun i y v h1 h2 h3 => ?_⟩, fun y c h => ⟨_, x.cell y c h⟩, e0.hok.fresh (Nat.le_refl _), fun y c h => ?_, fun p hp => absurd (show p ∈ ([] : List (Addr × Obj)) from hp) (by simp), e0.hok.kept hk, ?_⟩
  · exact name_of_addr x.apart (PySem.mem_of_lookup h1) (PySem.mem_of_lookup h2)
  · have hy : scope.names.lookup y = some .cell ∨ scope.names.lookup y = some .free := hy
    rcases hy with hy | hy
    · exact cell_has hy
    · exact absurd rfl (S.nofree _ (PySem.mem_of_lookup hy))
  · exact Nat.le_of_lt (x.above y c (PySem.mem_of_lookup h))
  · have hi : i < vs.length := by
      unfold start at h2
      by_cases hi : i < vs.length
      · exact hi
      · rw [List.getElem?_append_right (by simpa using hi)] at h2
        rw [List.getElem?_replicate] at h2
        split at h2 <;> cases h2
    have ha : vs[i]? = some v := by
      unfold start at h2
      rw [List.getElem?_append_left (by simpa using hi), List.getElem?_map] at h2
      cases e : vs[i]? with
      | none => rw [e] at h2; cases h2
      | some a => rw [e] at h2; cases h2; rfl
    obtain ⟨u, hu, rv⟩ := r.get ha
    have hp : ps[i]? = some y := by
      rw [← S.pre, List.getElem?_take_of_lt (by omega)]; exact h1
    have ndP : ps.Nodup := by rw [← S.pre]; exact S.nd.sublist (List.take_sublist _ _)
    refine ⟨u, rv, ?_⟩
    rcases S.par y (List.mem_of_getElem? hp) with k | k
    · exact .inl ⟨k, bindL_get ndP hp hu k⟩
    · obtain ⟨c, e⟩ := cell_has (n := s.heap.objs.size + 1) k
      refine .inr ⟨.inl k, c, e, ?_⟩
      have q := x.cell y c e
      rw [bindC_get ndP hp hu (by show scope.names.lookup y ≠ _; rw [k]; decide)] at q
      exact q
  · exact e0.hok.fresh (Nat.le_of_lt (x.above y c (PySem.mem_of_lookup h)))
  · unfold start
    show _ = N.length
    rw [List.length_append, List.length_map, List.length_replicate]
    omega
theorem fn_of {CX : CXT} {P : Program} {w : World} {K : PySem.W.Frag} {mg : Str → Option Value} {base : Heap} {k : Nat} {f : Addr} {name qual : Str} {params : Arguments} {body : List Stmt} {scope : Scope} {dV kV doc pm cdv ct oc : Value} {an od : Option Addr}
    {osl : Array (Option Value)} {N ps : List Str} {sp : Sp} (lk : K.lookup f = some ⟨oc, od, .func (PySem.W.fnOf name qual params body scope dV kV doc pm an cdv ct), osl⟩) (hcd : PySem.W.codeIn K cdv qual = true) (S : FnScope N ps scope)
    (len : ∀ vs H Q E, sp vs H Q E → vs.length = ps.length)
    (hbody : ∀ (A : Around) (outer : List Env) (s : Shared) (H : Hp) (vs : List V) (Q : VK) (E : XK), Room k (A.deeper (envOfC qual scope s.heap.objs.size f cdv)) → sp vs H Q E →
      ∃ t, PSs (cxOf CX P w K mg base N qual scope f cdv A outer s H E) body t ∧ t { nx := fun _ H' => Q .non H', rt := Q } (start N vs) H) :
    FnOk P w K mg base CX (k + 1) f (PySem.W.fnOf name qual params body scope dV kV doc pm an cdv ct) ps sp := by
  refine ⟨len, fun A outer s H args us vs Q E hr e0 hb r hsp => ?_⟩
  have hl := len _ _ _ _ hsp
  have KX : K.In s.heap := e0.mod.kin.keeps fun b o e => (e0.bs b o e).1
  have lim : s.heap.NoLimit := e0.mod.nolimit.keeps fun b o e => (e0.bs b o e).1
  have hkind : ∀ y ∈ ps.zip us, scope.names.lookup y.1 = some .local ∨ (scope.names.lookup y.1 = some .cell ∧ ((cellsFrom (s.heap.objs.size + 1) scope.names []).lookup y.1).isSome = true) := fun ⟨n, v⟩ hy => by
    rcases S.par n (List.of_mem_zip hy).1 with q | q
    · exact .inl q
    · exact .inr ⟨q, PySem.W.cellsFrom_some _ _ _ (.inl q)⟩
  refine codeAny_call_function hr.depth (KX _ _ lk) rfl S.co S.gen rfl (PySem.W.codeRec_of KX hcd) (hb _ _ _ _ ?_)
  refine wpAny_newFunctionEnv_cells S.kind hkind fun env he s1 x => ?_
  subst he
  refine ⟨lim.keeps x.toInCall.keep, codeAny_func ?_⟩
  obtain ⟨t, ht, hq⟩ := hbody A outer s H vs Q E (hr.deeper _) hsp
  have I : Inv (cxOf CX P w K mg base N qual scope f cdv A outer s H E) [] (start N vs) H s1 := inv_start S hr.hd e0 hl r x
  refine wpAny_mono (ht [] s1 (start N vs) H _ I hq) (fun fl s' hs => ?_) fun e s' hs => hs
  have fin : ∀ {σ' : St} {H' : Hp} {v : V} {u : Value}, Inv (cxOf CX P w K mg base N qual scope f cdv A outer s H E) [] σ' H' s' → RelV v u → Q v H' → CE outer P w H s Q u s' :=
    fun {σ' H' v u} J rv q => ⟨v, H', J.os, J.bare, J.base, J.hok, rv, q⟩
  cases fl with
  | ret u =>
    obtain ⟨v, σ', H', J, rv, q⟩ := hs
    exact fin J rv q
  | next =>
    obtain ⟨σ', H', J, q⟩ := hs
    exact fin (v := V.non) (u := Value.none) J rfl q
  | brk =>
    obtain ⟨_, _, _, q⟩ := hs
    exact False.elim q
  | cont =>
    obtain ⟨_, _, _, q⟩ := hs
    exact False.elim q
end L2
namespace L2
open PySem PySem.Spec PyProof.Rows
section
variable {X : Cx} {x : Str} {p pos : Pos} {e : Expr} {es : List Expr} {t : TA} {id T : String} {r : List V → Hp → VK → Prop}
def tCB (r : List V → Hp → VK → Prop) (t : TA) : TE := fun σ H Q => t σ H fun vs H1 => r vs H1 Q
theorem pe_callB (hc : CallR X (.builtin id) r) (hg : Gl X x) (hm : X.mg x = none) (hv : bootBuiltins x = some (.builtin id)) (ha : PA X (e :: es) t) (hn : x ≠ "__name__" := by decide) (hdb : (x == ("__debug__" : Str)) = false := by decide)
    (he : starEach (e :: es) X.env = (false, eval e X.env) :: starEach es X.env := by rfl) (hpl : (backTo pos (starEach es X.env)).any (·.1) = false := by rfl) : PE X (.Call (.Name x p) (e :: es) [] pos) (tCB r t) := by
  intro pins s σ H Q I h
  refine wpAny_Call_Name_kw (ld_blt I hg hm hv ?_ hn hdb)
  exact PyProof.Rows.callWith_builtin1 (thn (ha pos pins s σ H _ I h) fun us s1 ⟨vs, H1, I1, r1, q1⟩ => hc pins s1 σ H1 vs us Q I1 r1 q1) he hpl
theorem pe_callTy (hc : CallR X (.type T) r) (hg : Gl X x) (hm : X.mg x = none) (hv : bootBuiltins x = some (.type T)) (ha : PA X (e :: es) t) (hn : x ≠ "__name__" := by decide) (hdb : (x == ("__debug__" : Str)) = false := by decide)
    (he : starEach (e :: es) X.env = (false, eval e X.env) :: starEach es X.env := by rfl) (hpl : (backTo pos (starEach es X.env)).any (·.1) = false := by rfl) : PE X (.Call (.Name x p) (e :: es) [] pos) (tCB r t) := by
  intro pins s σ H Q I h
  refine wpAny_Call_Name_kw (ld_blt I hg hm hv ?_ hn hdb)
  exact PyProof.Rows.callWith_type1 (thn (ha pos pins s σ H _ I h) fun us s1 ⟨vs, H1, I1, r1, q1⟩ => hc pins s1 σ H1 vs us Q I1 r1 q1) he hpl
end
end L2
namespace HT
open PySem PyProof.Rows
section
variable {prog : Program} {w : World} {A : Around} {E : Value → Shared → Prop} {s : Shared}
def sIx (n d : Nat) : Option Int → Nat
  | none => d
  | some v => if v < 0 then (v + (n : Int)).toNat else min v.toNat n
end
end HT
namespace L2
open PySem PySem.Spec PyProof.Rows
abbrev TO := St → Hp → (Option Int → Hp → Prop) → Prop
def PO (X : Cx) (e : Option Expr) (t : TO) : Prop :=
  ∀ (pins : List (Addr × Obj)) (s : Shared) (σ : St) (H : Hp) (Q : Option Int → Hp → Prop), Inv X pins σ H s → t σ H Q →
    wpAny (model X.prog X.w) X.A (evalPart e X.env) (fun u s' => ∃ o H', Inv X pins σ H' s' ∧ IsPart u o ∧ Q o H') X.xe s
def tNoPart : TO := fun _ H Q => Q none H
def tPart (t : TE) : TO := fun σ H Q => t σ H fun x H1 => ∃ i, x = .int i ∧ Q (some i) H1
section
variable {X : Cx} {e : Expr} {te : TE} {lo hi : Option Expr} {tl th : TO} {pos p2 : Pos}
theorem po_none : PO X none tNoPart := by
  intro pins s σ H Q I h
  rw [evalPart_none]
  exact wpAny_pure ⟨none, H, I, .none, h⟩
theorem po_some (h : PE X e te) : PO X (some e) (tPart te) := by
  intro pins s σ H Q I hw
  rw [evalPart_some]
  refine thn (h pins s σ H _ I hw) fun u s1 ⟨x, H1, I1, r1, q1⟩ => ?_
  obtain ⟨i, rfl, q⟩ := q1
  obtain ⟨t, rfl⟩ := r1
  exact ⟨some i, H1, I1, .int i t, q⟩
def SlR (X : Cx) (r : V → Option Int → Option Int → Hp → VK → Prop) : Prop :=
  ∀ (pins : List (Addr × Obj)) (s : Shared) (σ : St) (H : Hp) (x : V) (v vl vu : Value) (lo hi : Option Int) (sl : Addr) (Q : VK), Inv X pins σ H s → RelV x v → s.heap.IsSliceOf sl vl vu .none → IsPart vl lo → IsPart vu hi → r x lo hi H Q →
    ∃ T id, typeLookup (.type T) "__getitem__" = pure (some (.builtin id)) ∧ s.TypeIs v T ∧ wpAny (model X.prog X.w) X.A (getItem v (.ref sl)) (EP X pins σ Q) X.xe s
theorem SlR.or {r r' : V → Option Int → Option Int → Hp → VK → Prop} (h : SlR X r) (h' : SlR X r') : SlR X (fun x lo hi H Q => r x lo hi H Q ∨ r' x lo hi H Q) := by
  intro pins s σ H x v vl vu lo hi sl Q I rx hs pl pu q
  rcases q with q | q
  · exact h pins s σ H x v vl vu lo hi sl Q I rx hs pl pu q
  · exact h' pins s σ H x v vl vu lo hi sl Q I rx hs pl pu q
def tSl (r : V → Option Int → Option Int → Hp → VK → Prop) (te : TE) (tl th : TO) : TE := fun σ H Q => te σ H fun x H1 => tl σ H1 fun l H2 => th σ H2 fun u H3 => r x l u H3 Q
theorem pe_slice {r : V → Option Int → Option Int → Hp → VK → Prop} (hr : SlR X r) (he : PE X e te) (hl : PO X lo tl) (hu : PO X hi th) : PE X (.Subscript e (.Slice lo hi none p2) pos) (tSl r te tl th) := by
  intro pins s σ H Q I h
  refine Subscript_ (thn (he pins s σ H _ I h) fun v s1 ⟨x, H1, I1, r1, q1⟩ => ?_)
  refine wpAny_Slice (thn (hl pins s1 σ H1 _ I1 q1) fun vl s2 ⟨l, H2, I2, pl, q2⟩ => thn (hu pins s2 σ H2 _ I2 q2) fun vu s3 ⟨u, H3, I3, pu, q3⟩ => ?_)
  rw [evalPart_none]
  refine wpAny_pure ?_
  have I4 : Inv X pins σ H3 { s3 with heap := s3.heap.push { cls := .type "slice", data := .fields #[vl, vu, .none] } } := I3.kept (t' := s3.toks) fun b ob q => Heap.get?_push_of_some _ q
  obtain ⟨T, id, hT, ht, hg⟩ := hr pins { s3 with heap := s3.heap.push { cls := .type "slice", data := .fields #[vl, vu, .none] } } σ H3 x v vl vu l u s3.heap.objs.size Q I4 r1 (Heap.IsSliceOf.new ..) pl pu q3
  show wpAny (model X.prog X.w) X.A (subscriptTail e (.Slice lo hi none p2) v (.ref s3.heap.objs.size)) (EP X pins σ Q) X.xe { s3 with heap := s3.heap.push { cls := .type "slice", data := .fields #[vl, vu, .none] } }
  exact tail_any (ops := [.ref s3.heap.objs.size, v]) ht hT hg (by with_unfolding_all rfl)
def cutV (xs : List V) (lo hi : Option Int) : List V := (xs.drop (HT.sIx xs.length 0 lo)).take (HT.sIx xs.length xs.length hi - HT.sIx xs.length 0 lo)
theorem cutV_length (xs : List V) (lo hi : Option Int) : (cutV xs lo hi).length ≤ xs.length := by
  unfold cutV
  rw [List.length_take, List.length_drop]
  omega
end
end L2
namespace L2
open PySem PySem.Spec PyProof.Rows
def ixN (n : Nat) (i : Int) : Option Nat := if 0 ≤ i then (if i < n then some i.toNat else none) else if -(n : Int) ≤ i then some (i + n).toNat else none
def atI {α : Type} (xs : List α) (i : Int) : Option α := (ixN xs.length i).bind fun j => xs[j]?
theorem ixN_seq {n : Nat} {i : Int} {j : Nat} (h : ixN n i = some j) : seqIndex? i n = some j ∧ j < n ∧ -(n : Int) ≤ i ∧ i < n := by
  unfold ixN at h
  by_cases h0 : 0 ≤ i
  · rw [if_pos h0] at h
    by_cases h1 : i < n
    · rw [if_pos h1] at h
      have e : i.toNat = j := Option.some.inj h
      exact ⟨by rw [seqIndex_of h0 h1, e], by omega, by omega, h1⟩
    · rw [if_neg h1] at h; cases h
  · rw [if_neg h0] at h
    by_cases h1 : -(n : Int) ≤ i
    · rw [if_pos h1] at h
      have e : (i + n).toNat = j := Option.some.inj h
      exact ⟨by rw [seqIndex_neg (by omega) h1, e], by omega, h1, by omega⟩
    · rw [if_neg h1] at h; cases h
theorem atI_get {α : Type} {xs : List α} {i : Int} {v : α} (h : atI xs i = some v) : ∃ j, seqIndex? i xs.length = some j ∧ xs[j]? = some v ∧ j < xs.length ∧ -(xs.length : Int) ≤ i ∧ i < xs.length := by
  unfold atI at h
  cases e : ixN xs.length i with
  | none => rw [e] at h; cases h
  | some j =>
    rw [e] at h
    obtain ⟨h1, h2, h3, h4⟩ := ixN_seq e
    exact ⟨j, h1, h, h2, h3, h4⟩
def PlainIx (b : Expr) : Prop := ∀ o i, subscripted b false o i = operate [o, i] (getItem o i)
def IxR (X : Cx) (r : R2) : Prop :=
  ∀ (value slice : Expr) (pins : List (Addr × Obj)) (s : Shared) (σ : St) (H : Hp) (x y : V) (v u : Value) (Q : VK), Inv X pins σ H s → RelV x v → RelV y u → r x y H Q →
    subscripted slice false v u = operate [v, u] (getItem v u) → wpAny (model X.prog X.w) X.A (subscriptTail value slice v u) (EP X pins σ Q) X.xe s
def MtR (X : Cx) (id : String) (r : V → List V → Hp → VK → Prop) : Prop :=
  ∀ (pins : List (Addr × Obj)) (s : Shared) (σ : St) (H : Hp) (x : V) (xs : List V) (v : Value) (us : List Value) (Q : VK), Inv X pins σ H s → RelV x v → Vals xs us → r x xs H Q →
    wpAny (model X.prog X.w) X.A (call (.builtin id) (v :: us)) (EP X pins σ Q) X.xe s
section
variable {X : Cx} {a b : Expr} {ta tb : TE} {pos : Pos}
theorem IxR.or {r r' : R2} (h : IxR X r) (h' : IxR X r') : IxR X (fun x y H Q => r x y H Q ∨ r' x y H Q) := by
  intro value slice pins s σ H x y v u Q I rx ry q hs
  rcases q with q | q
  · exact h value slice pins s σ H x y v u Q I rx ry q hs
  · exact h' value slice pins s σ H x y v u Q I rx ry q hs
theorem pe_ix {r : R2} (hr : IxR X r) (ha : PE X a ta) (hb : PE X b tb) (hs : PlainIx b) : PE X (.Subscript a b pos) (tOp r ta tb) := by
  intro pins s σ H Q I h
  exact Subscript_ (binT ha hb I h fun v u s2 x y H2 I2 rx ry q => hr a b pins s2 σ H2 x y v u Q I2 rx ry q (hs _ _))
def rIxL (K : PySem.W.Frag) : R2 := fun x y H Q => ∃ p xs i v, x = .ref p ∧ y = .int i ∧ SqL K H p xs ∧ atI xs i = some v ∧ Q v H
def rIxT (K : PySem.W.Frag) : R2 := fun x y H Q => ∃ p xs i v, x = .ref p ∧ y = .int i ∧ SqT K H p xs ∧ atI xs i = some v ∧ Q v H
def rIxS : R2 := fun x y H Q => ∃ z i c, x = .str z ∧ y = .int i ∧ z.length ≤ sizeLine ∧ atI z.cps.toList i = some c ∧ Q (.str ⟨#[c]⟩) H
theorem ix_list : IxR X (rIxL X.K) := by
  intro value slice pins s σ H x y v u Q I rx ry h hs
  obtain ⟨p, xs, i, z, rfl, rfl, hq, he, q⟩ := h
  cases rx
  obtain ⟨t, rfl⟩ := ry
  obtain ⟨its, r, pl, hz⟩ := I.list hq
  obtain ⟨j, h1, h2, h3, h4, h5⟩ := atI_get he
  obtain ⟨w, ew, rw'⟩ := r.get h2
  have hl := r.length
  have hn := line63
  have fin : EP X pins σ Q w s := ⟨z, H, I, rw', q⟩
  by_cases h0 : 0 ≤ i
  · have hj : i.toNat = j := by
      rw [seqIndex_of h0 h5] at h1
      exact Option.some.inj h1
    exact item_listR pl.isList h0 (by omega) (by rw [hj]; simpa using ew) fin hs
  · have hj : (i + (its.toArray.size : Int)).toNat = j := by
      rw [seqIndex_neg (by omega) h4] at h1
      rw [List.size_toArray, ← hl]
      exact Option.some.inj h1
    exact subscriptTail_builtinR (x := w) pl.isList.typeIs slot_list_getitem.lookup
      (wpAny_getItem_list_neg (Q := fun r s' => r = w ∧ EP X pins σ Q r s') pl.isList (by omega) (by rw [List.size_toArray] <;> omega) (by omega) (by rw [hj]; simpa using ew) ⟨rfl, fin⟩) hs
theorem ix_tup : IxR X (rIxT X.K) := by
  intro value slice pins s σ H x y v u Q I rx ry h hs
  obtain ⟨p, xs, i, z, rfl, rfl, hq, he, q⟩ := h
  cases rx
  obtain ⟨t, rfl⟩ := ry
  obtain ⟨its, r, pl, hz⟩ := I.tuple hq
  obtain ⟨j, h1, h2, h3, h4, h5⟩ := atI_get he
  obtain ⟨w, ew, rw'⟩ := r.get h2
  have hl := r.length
  have hn := line63
  have fin : EP X pins σ Q w s := ⟨z, H, I, rw', q⟩
  exact subscriptTail_builtinR (x := w) pl.typeIs slot_tuple_getitem.lookup
    (getItem_tuple (j := j) (Q := fun r s' => r = w ∧ EP X pins σ Q r s') pl (by omega) (by omega) (by rw [List.size_toArray, ← hl]; exact h1) (by simpa using ew) ⟨rfl, fin⟩) hs
theorem ix_str : IxR X rIxS := by
  intro value slice pins s σ H x y v u Q I rx ry h hs
  obtain ⟨z, i, c, rfl, rfl, hz, he, q⟩ := h
  obtain ⟨t, rfl⟩ := rx
  obtain ⟨t', rfl⟩ := ry
  obtain ⟨j, h1, h2, h3, h4, h5⟩ := atI_get he
  have hl : z.cps.toList.length = z.length := by simp [Str.length]
  rw [hl] at h1 h4 h5
  have hn := line63
  exact tail_any (typeIs_str s z t) slot_str_getitem.lookup (getItem_str (c := c) (by
    have e1 : decide (i < -(2 ^ 63 : Int)) = false := decide_eq_false (by omega)
    have e2 : decide (i ≥ 2 ^ 63) = false := decide_eq_false (by omega)
    rw [e1, e2, Bool.or_false]) (by rw [h1]; simpa using h2) ⟨.str ⟨#[c]⟩, H, I.tok _, ⟨_, rfl⟩, q⟩) hs
def rIx (K : PySem.W.Frag) : R2 := fun x y H Q => rIxL K x y H Q ∨ rIxT K x y H Q ∨ rIxS x y H Q
theorem ix_seq : IxR X (rIx X.K) := ix_list.or (ix_tup.or ix_str)
theorem slice_bounds (lo hi : Option Int) (n : Nat) : (sliceBounds lo hi none n).1 = ((HT.sIx n 0 lo : Nat) : Int) ∧ (sliceBounds lo hi none n).2.1 = ((HT.sIx n n hi : Nat) : Int) ∧ (sliceBounds lo hi none n).2.2 = 1 := by
  refine ⟨?_, ?_, rfl⟩
  · cases lo with
    | none => simp [sliceBounds, HT.sIx]
    | some i =>
      simp only [sliceBounds, HT.sIx, Option.getD_none, show (1 : Int) > 0 by decide, if_true]
      by_cases h : i < 0
      · simp only [h, if_true] <;> omega
      · simp only [h, if_false] <;> omega
  · cases hi with
    | none => simp [sliceBounds, HT.sIx]
    | some i =>
      simp only [sliceBounds, HT.sIx, Option.getD_none, show (1 : Int) > 0 by decide, if_true]
      by_cases h : i < 0
      · simp only [h, if_true] <;> omega
      · simp only [h, if_false] <;> omega
theorem slicePick_cut (its : List Value) (lo hi : Option Int) : slicePick its.toArray lo hi none = ((its.drop (HT.sIx its.length 0 lo)).take (HT.sIx its.length its.length hi - HT.sIx its.length 0 lo)).toArray := by
  obtain ⟨h1, h2, h3⟩ := slice_bounds lo hi its.toArray.size
  unfold slicePick
  rw [h1, h2, h3]
  simp only [sliceRange_one, pick_run, List.size_toArray] <;> rfl
def rSlL (K : PySem.W.Frag) : V → Option Int → Option Int → Hp → VK → Prop := fun x lo hi H Q => ∃ a xs, x = .ref a ∧ SqL K H a xs ∧ ∀ p, H p = none → Q (.ref p) (upd H p (.lst (cutV xs lo hi)))
theorem sl_list : SlR X (rSlL X.K) := by
  intro pins s σ H x v vl vu lo hi sl Q I rx hs pl pu h
  obtain ⟨a, xs, rfl, hx, q⟩ := h
  cases rx
  obtain ⟨its, r, ht, hz⟩ := I.list hx
  have hlen := r.length
  refine ⟨"list", _, slot_list_getitem.lookup, ht.isList.typeIs, ?_⟩
  refine wpAny_getItem_list_slice ht.isList hs pl pu .none (by simp) ?_ (by rw [List.size_toArray] <;> omega)
  rw [slicePick_cut, ← hlen]
  refine ⟨.ref s.heap.objs.size, _, I.laid (t' := s.toks) (o := .lst (cutV xs lo hi)) (fun b ob q => Heap.get?_push_of_some _ q) (Nat.le_refl _) ?_, rfl, q _ (I.hok.fresh (Nat.le_refl _))⟩
  exact ⟨Nat.le_trans (cutV_length xs lo hi) hz, _, 0, (r.drop (HT.sIx xs.length 0 lo)).take (HT.sIx xs.length xs.length hi - HT.sIx xs.length 0 lo), Heap.get?_push_size _ rfl⟩
def flatV : V → Bool
  | .non => true
  | .bl _ => true
  | .int _ => true
  | .str _ => true
  | _ => false
def eqV : V → V → Bool
  | .non, .non => true
  | .bl a, .bl b => a == b
  | .bl a, .int b => (if a then 1 else 0) == b
  | .int a, .bl b => a == (if b then 1 else 0)
  | .int a, .int b => a == b
  | .str a, .str b => a == b
  | _, _ => false
theorem eqAt_V {A : Around} {s : Shared} {y x : V} {u v : Value} (ry : RelV y u) (rx : RelV x v) (fy : flatV y = true) (fx : flatV x = true) : SeqAt.EqAt A s u v (eqV y x) := by
  cases y with
  | non =>
    cases ry
    cases x with
    | non => cases rx; exact SeqAt.EqAt.same _
    | bl b => cases rx; exact SeqAt.EqAt.none_bool b
    | int b => obtain ⟨t, rfl⟩ := rx; exact SeqAt.EqAt.none_int b t
    | str b => obtain ⟨t, rfl⟩ := rx; exact SeqAt.EqAt.none_str b t
    | _ => exact absurd (show false = true from fx) Bool.false_ne_true
  | bl a =>
    cases ry
    cases x with
    | non => cases rx; exact SeqAt.EqAt.bool_none a
    | bl b => cases rx; exact SeqAt.EqAt.bool_bool a b
    | int b => obtain ⟨t, rfl⟩ := rx; exact SeqAt.EqAt.bool_int a b t
    | str b => obtain ⟨t, rfl⟩ := rx; exact SeqAt.EqAt.bool_str a b t
    | _ => exact absurd (show false = true from fx) Bool.false_ne_true
  | int a =>
    obtain ⟨t', rfl⟩ := ry
    cases x with
    | non => cases rx; exact SeqAt.EqAt.int_none a t'
    | bl b => cases rx; exact SeqAt.EqAt.int_bool a t' b
    | int b => obtain ⟨t, rfl⟩ := rx; exact SeqAt.EqAt.int_int a t' b t
    | str b => obtain ⟨t, rfl⟩ := rx; exact SeqAt.EqAt.int_str a t' b t
    | _ => exact absurd (show false = true from fx) Bool.false_ne_true
  | str a =>
    obtain ⟨t', rfl⟩ := ry
    cases x with
    | non => cases rx; exact SeqAt.EqAt.str_none a t'
    | bl b => cases rx; exact SeqAt.EqAt.str_bool a t' b
    | int b => obtain ⟨t, rfl⟩ := rx; exact SeqAt.EqAt.str_int a t' b t
    | str b => obtain ⟨t, rfl⟩ := rx; exact SeqAt.EqAt.str_str a t' b t
    | _ => exact absurd (show false = true from fx) Bool.false_ne_true
  | _ => exact absurd (show false = true from fy) Bool.false_ne_true
def eqU (x : V) (u : Value) : Bool := match u with
  | .none => eqV .non x
  | .bool b => eqV (.bl b) x
  | .int i _ => eqV (.int i) x
  | .str z _ => eqV (.str z) x
  | _ => false
theorem eqU_of {x y : V} {u : Value} (r : RelV y u) (f : flatV y = true) : eqU x u = eqV y x := by
  cases y with
  | non => cases r; rfl
  | bl b => cases r; rfl
  | int i => obtain ⟨t, rfl⟩ := r; rfl
  | str z => obtain ⟨t, rfl⟩ := r; rfl
  | _ => exact absurd (show false = true from f) Bool.false_ne_true
theorem any_eqU {x : V} : ∀ {xs : List V} {us : List Value}, Vals xs us → xs.all flatV = true → us.any (eqU x) = xs.any fun y => eqV y x
  | _, _, .nil, _ => rfl
  | y :: xs, u :: us, .cons r t, f => by
    rw [List.all_cons, Bool.and_eq_true] at f
    rw [List.any_cons, List.any_cons, eqU_of r f.1, any_eqU t f.2]
theorem mem_eqAt {A : Around} {s : Shared} {x : V} {v : Value} (rx : RelV x v) (fx : flatV x = true) : ∀ {xs : List V} {us : List Value}, Vals xs us → xs.all flatV = true → ∀ u ∈ us, SeqAt.EqAt A s u v (eqU x u)
  | _, _, .nil, _ => fun u hu => by cases hu
  | y :: xs, u :: us, .cons r t, f => fun u' hu => by
    rw [List.all_cons, Bool.and_eq_true] at f
    rcases List.mem_cons.mp hu with rfl | hu
    · rw [eqU_of r f.1]; exact eqAt_V r rx f.1 fx
    · exact mem_eqAt rx fx t f.2 u' hu
def inV (x : V) (xs : List V) : Bool := xs.any fun y => eqV y x
def rIn (K : PySem.W.Frag) (neg : Bool) : R2 := fun x y H Q => ∃ p xs, y = .ref p ∧ (SqL K H p xs ∨ SqT K H p xs) ∧ flatV x = true ∧ xs.all flatV = true ∧ Q (.bl (if neg then !inV x xs else inV x xs)) H
theorem op_in_seq : OpR X (compareOp .In) (rIn X.K false) := by
  intro pins s σ H x y v u Q I rx ry h
  obtain ⟨p, xs, rfl, hq, fx, fs, q⟩ := h
  cases ry
  rcases hq with hq | hq
  · obtain ⟨its, r, pl, hz⟩ := I.list hq
    refine SeqAt.in_listAt (eqU x) pl.isList (fun w hw => mem_eqAt rx fx r fs w (by simpa using hw)) ⟨.bl _, H, I, rfl, ?_⟩
    rw [show its.toArray.any (eqU x) = its.any (eqU x) by simp, any_eqU r fs]
    exact q
  · obtain ⟨its, r, pl, hz⟩ := I.tuple hq
    refine SeqAt.in_tupleAt (eqU x) pl (fun w hw => mem_eqAt rx fx r fs w (by simpa using hw)) ⟨.bl _, H, I, rfl, ?_⟩
    rw [show its.toArray.any (eqU x) = its.any (eqU x) by simp, any_eqU r fs]
    exact q
theorem op_notIn_seq : OpR X (compareOp .NotIn) (rIn X.K true) := by
  intro pins s σ H x y v u Q I rx ry h
  obtain ⟨p, xs, rfl, hq, fx, fs, q⟩ := h
  cases ry
  rcases hq with hq | hq
  · obtain ⟨its, r, pl, hz⟩ := I.list hq
    refine SeqAt.notIn_listAt (eqU x) pl.isList (fun w hw => mem_eqAt rx fx r fs w (by simpa using hw)) ⟨.bl _, H, I, rfl, ?_⟩
    rw [show its.toArray.any (eqU x) = its.any (eqU x) by simp, any_eqU r fs]
    exact q
  · obtain ⟨its, r, pl, hz⟩ := I.tuple hq
    refine SeqAt.notIn_tupleAt (eqU x) pl (fun w hw => mem_eqAt rx fx r fs w (by simpa using hw)) ⟨.bl _, H, I, rfl, ?_⟩
    rw [show its.toArray.any (eqU x) = its.any (eqU x) by simp, any_eqU r fs]
    exact q
theorem call_len_seq : CallR X (.builtin "len") (fun xs H Q => ∃ p ys, xs = [.ref p] ∧ (SqL X.K H p ys ∨ SqT X.K H p ys) ∧ Q (.int ys.length) H) := by
  intro pins s σ H xs us Q I r h
  obtain ⟨p, ys, rfl, hq, q⟩ := h
  obtain ⟨u, rfl, rx⟩ := vals1 r
  cases rx
  have hn := line63
  rcases hq with hq | hq
  · obtain ⟨its, r', pl, hz⟩ := I.list hq
    have hlen := r'.length
    exact Calls.call_len_list pl.isList (by simp only [List.size_toArray] <;> omega) ⟨.int ys.length, H, I.tok _, ⟨s.toks + 1, by rw [List.size_toArray, hlen]⟩, q⟩
  · obtain ⟨its, r', pl, hz⟩ := I.tuple hq
    have hlen := r'.length
    exact len_tuple pl (by simp only [List.size_toArray] <;> omega) ⟨.int ys.length, H, I.tok _, ⟨s.toks + 1, by rw [List.size_toArray, hlen]⟩, q⟩
theorem call_len_str : CallR X (.builtin "len") (fun xs H Q => ∃ z, xs = [.str z] ∧ z.length ≤ sizeLine ∧ Q (.int z.length) H) := by
  intro pins s σ H xs us Q I r h
  obtain ⟨z, rfl, hz, q⟩ := h
  obtain ⟨u, rfl, t, rfl⟩ := vals1 r
  have hn := line63
  exact len_str (by omega) ⟨.int z.length, H, I.tok _, ⟨_, rfl⟩, q⟩
theorem CallR.or {f : Value} {r r' : List V → Hp → VK → Prop} (h : CallR X f r) (h' : CallR X f r') : CallR X f (fun xs H Q => r xs H Q ∨ r' xs H Q) := by
  intro pins s σ H xs us Q I rs q
  rcases q with q | q
  · exact h pins s σ H xs us Q I rs q
  · exact h' pins s σ H xs us Q I rs q
theorem call_list_of : CallR X (.type "list") (fun xs H Q => ∃ p ys, xs = [.ref p] ∧ (SqL X.K H p ys ∨ SqT X.K H p ys) ∧ ∀ l, H l = none → Q (.ref l) (upd H l (.lst ys))) := by
  intro pins s σ H xs us Q I r h
  obtain ⟨p, ys, rfl, hq, q⟩ := h
  obtain ⟨u, rfl, rx⟩ := vals1 r
  cases rx
  have fin : ∀ (its : List Value), Vals ys its → ys.length ≤ sizeLine → ∀ (h' : Heap) (c' : Nat), (∀ b o', s.heap.get? b = some o' → h'.get? b = some o') →
      h'.get? s.heap.objs.size = some { cls := .type "list", dict := none, data := .seq its.toArray c', slots := #[] } → EP X pins σ Q (.ref s.heap.objs.size) { s with heap := h' } := fun its r' hz h' c' kp e =>
    ⟨.ref s.heap.objs.size, _, I.laid (t' := s.toks) kp (Nat.le_refl _) (show ObjOk X.prog X.w _ h' _ (.lst ys) from ⟨hz, its, c', r', e⟩), rfl, q _ (I.hok.fresh (Nat.le_refl _))⟩
  rcases hq with hq | hq
  · obtain ⟨its, r', pl, hz⟩ := I.list hq
    have hlen := r'.length
    obtain ⟨o, ho, hc, n, hd⟩ := pl.isList
    exact call_list_seq p (.inl rfl) ho hc hd (fun h' c' kp e => fin its r' hz h' c' kp e) (by simp only [List.size_toArray] <;> omega)
  · obtain ⟨its, r', pl, hz⟩ := I.tuple hq
    have hlen := r'.length
    obtain ⟨o, ho, hc, n, hd⟩ := pl
    exact call_list_seq p (.inr rfl) ho hc hd (fun h' c' kp e => fin its r' hz h' c' kp e) (by simp only [List.size_toArray] <;> omega)
theorem call_tuple_of : CallR X (.type "tuple") (fun xs H Q => ∃ p ys, xs = [.ref p] ∧ ((SqL X.K H p ys ∧ ∀ l, H l = none → Q (.ref l) (upd H l (.tup ys))) ∨ (SqT X.K H p ys ∧ Q (.ref p) H))) := by
  intro pins s σ H xs us Q I r h
  obtain ⟨p, ys, rfl, h⟩ := h
  obtain ⟨u, rfl, rx⟩ := vals1 r
  cases rx
  rcases h with ⟨hq, q⟩ | ⟨hq, q⟩
  · obtain ⟨its, r', pl, hz⟩ := I.list hq
    have hlen := r'.length
    refine call_tuple_list pl.isList (fun h' kp => ?_) (by simp only [List.size_toArray] <;> omega)
    have I1 : Inv X pins σ H { s with heap := h' } := I.kept (t' := s.toks) kp
    have I2 : Inv X pins σ (upd H h'.objs.size (.tup ys)) { s with heap := h'.push { cls := .type "tuple", data := .seq its.toArray } } :=
      I1.laid (t' := s.toks) (fun b o e => Heap.get?_push_of_some _ e) (Nat.le_refl _) (show ObjOk X.prog X.w _ _ _ (.tup ys) from ⟨⟨hz, NoD.new⟩, its, r', IsTup.new _ _⟩)
    exact ⟨.ref h'.objs.size, _, I2, rfl, q _ (I1.hok.fresh (Nat.le_refl _))⟩
  · obtain ⟨its, r', pl, hz⟩ := I.tuple hq
    exact call_tuple_same pl ⟨.ref p, H, I, rfl, q⟩
def tyV (K : PySem.W.Frag) (T : String) (x : V) (H : Hp) : Prop := match x with
  | .str _ => T = "str"
  | .int _ => T = "int"
  | .ref p => (T = "list" ∧ ∃ xs, SqL K H p xs) ∨ (T = "tuple" ∧ ∃ o, K.lookup p = some o ∧ o.cls = .type "tuple" ∧ o.dict = none) ∨
      (T = "dict" ∧ ((∃ kvs, H p = some (.dK kvs)) ∨ ∃ kvs, H p = some (.dT kvs))) ∨ (T = "set" ∧ ∃ S n, H p = some (.set S n))
  | _ => False
theorem tyV_is {pins : List (Addr × Obj)} {σ : St} {H : Hp} {s : Shared} {T : String} {x : V} {v : Value} (I : Inv X pins σ H s) (r : RelV x v) (ty : tyV X.K T x H) :
    s.TypeIs v T ∧ ∀ a, v = .ref a → ∃ ob, s.heap.get? a = some ob ∧ ob.dict = none := by
  cases x with
  | str z =>
    obtain ⟨t, rfl⟩ := r
    cases (show T = "str" from ty)
    exact ⟨typeIs_str s z t, fun _ e => nomatch e⟩
  | int i =>
    obtain ⟨t, rfl⟩ := r
    cases (show T = "int" from ty)
    exact ⟨typeIs_int s i t, fun _ e => nomatch e⟩
  | ref p =>
    cases r
    rcases ty with ⟨rfl, xs, hq⟩ | ⟨rfl, o, hk, hc, hd⟩ | ⟨rfl, hk⟩ | ⟨rfl, S, n, hk⟩
    · obtain ⟨its, _, pl, _⟩ := I.list hq
      refine ⟨pl.isList.typeIs, fun a e => ?_⟩
      cases e
      obtain ⟨o, n, e, c, hd, _⟩ := pl
      exact ⟨o, e, hd⟩
    · refine ⟨⟨o, I.kIn p o hk, hc⟩, fun a e => ?_⟩
      cases e
      exact ⟨o, I.kIn _ o hk, hd⟩
    · have z : ∃ o, s.heap.get? p = some o ∧ o.ExactDict := by
        rcases hk with ⟨kvs, hk⟩ | ⟨kvs, hk⟩
        · obtain ⟨_, _, _, _, o, _, _, e, ex, _⟩ := I.hok p _ hk
          exact ⟨o, e, ex⟩
        · obtain ⟨_, _, _, _, o, _, _, e, ex, _⟩ := I.hok p _ hk
          exact ⟨o, e, ex⟩
      obtain ⟨o, e, ex⟩ := z
      refine ⟨⟨o, e, ex.1⟩, fun a e2 => ?_⟩
      cases e2
      exact ⟨o, e, ex.2.1⟩
    · obtain ⟨o, _, _, _, e, ex, _⟩ := I.hok p _ hk
      refine ⟨⟨o, e, ex.1⟩, fun a e2 => ?_⟩
      cases e2
      exact ⟨o, e, ex.2.1⟩
  | _ => exact False.elim ty
def tBM0 (K : PySem.W.Frag) (T : String) (r : V → List V → Hp → VK → Prop) (to : TE) : TE := fun σ H Q => to σ H fun x H1 => tyV K T x H1 ∧ r x [] H1 Q
def tBM (K : PySem.W.Frag) (T : String) (r : V → List V → Hp → VK → Prop) (to : TE) (t : TA) : TE := fun σ H Q => to σ H fun x H1 => tyV K T x H1 ∧ t σ H1 fun xs H2 => r x xs H2 Q
variable {o e : Expr} {es : List Expr} {to : TE} {t : TA} {name : Str} {apos cpos : Pos} {T id : String} {r : V → List V → Hp → VK → Prop}
theorem pe_bm0 (pa : PlainAttrs T) (slot : Slot T name id) (hty : typeOf (.builtin id) = pure (.type "method_descriptor")) (hm : MtR X id r) (ho : PE X o to)
    (hbase : attributeBase o name X.env (eval o X.env) = eval o X.env := by rfl) (hline : (apos.endLine == cpos.line) = true := by rfl) : PE X (.Call (.Attribute o name apos) [] [] cpos) (tBM0 X.K T r to) := by
  intro pins s σ H Q I h
  refine wpAny_Call_method0_late hbase hline (thn (ho pins s σ H _ I h) fun v s1 ⟨x, H1, I1, r1, ty, q1⟩ => ?_)
  obtain ⟨h1, h2⟩ := tyV_is I1 r1 ty
  exact ⟨T, id, pa, slot, hty, h1, h2, Calls.callWith_builtin rfl (PySem.evalArgs_none (hm pins s1 σ H1 x [] v [] Q I1 r1 .nil q1))⟩
theorem pe_bm (pa : PlainAttrs T) (slot : Slot T name id) (hty : typeOf (.builtin id) = pure (.type "method_descriptor")) (hm : MtR X id r) (ho : PE X o to) (ha : PA X (e :: es) t)
    (hbase : attributeBase o name X.env (eval o X.env) = eval o X.env := by rfl)
    (hfew : ((backTo cpos (starEach (e :: es) X.env)).all (fun x => !x.1) && (backToKw cpos (keywordEach [] X.env)).all (fun x => x.1.isSome)
      && decide ((e :: es).length + ([] : List Keyword).length + (if ([] : List Keyword).isEmpty then 0 else 1) < 30)) = true := by rfl)
    (hline : (apos.endLine == cpos.line) = true := by rfl) (hs : starEach (e :: es) X.env = (false, eval e X.env) :: starEach es X.env := by rfl) (hplain : (backTo cpos (starEach es X.env)).any (·.1) = false := by rfl) :
    PE X (.Call (.Attribute o name apos) (e :: es) [] cpos) (tBM X.K T r to t) := by
  intro pins s σ H Q I h
  refine wpAny_Call_method_late hbase hfew hline rfl (thn (ho pins s σ H _ I h) fun v s1 ⟨x, H1, I1, r1, ty, q1⟩ => ?_)
  obtain ⟨h1, h2⟩ := tyV_is I1 r1 ty
  refine ⟨T, id, pa, slot, hty, h1, h2, ?_⟩
  have hA := ha cpos pins s1 σ H1 _ I1 q1
  rw [hs] at hA ⊢
  refine Calls.callWith_builtin (by show (false || (backTo cpos (starEach es X.env)).any (·.1)) = false; rw [hplain] <;> rfl) (Calls.evalArgs_plain ?_)
  exact thn hA fun us s2 ⟨vs, H2, I2, r2, q2⟩ => hm pins s2 σ H2 x vs v us Q I2 r1 r2 q2
/- xs.append(e), list.index on a module's tuple .. are MtR facts of 06m -/
end
end L2
namespace L2
open PySem PySem.Spec PyProof.Rows
def MtM (X : Cx) (id : String) (r : V → List V → Hp → VK → Prop) : Prop :=
  ∀ (pins : List (Addr × Obj)) (s : Shared) (σ : St) (H : Hp) (x : V) (xs : List V) (v : Value) (us : List Value) (Q : VK), Inv X pins σ H s → RelV x v → Vals xs us → r x xs H Q →
    wpAny (model X.prog X.w) X.A (call (.builtin id) (v :: us)) (EP X pins σ Q) X.xe s
theorem Vals.one : ∀ {x : V} {us : List Value}, Vals [x] us → ∃ u, us = [u] ∧ RelV x u
  | _, _, .cons r .nil => ⟨_, rfl, r⟩
theorem Vals.two : ∀ {x y : V} {us : List Value}, Vals [x, y] us → ∃ u v, us = [u, v] ∧ RelV x u ∧ RelV y v
  | _, _, _, .cons r (.cons q .nil) => ⟨_, _, rfl, r, q⟩
theorem Vals.zero : ∀ {us : List Value}, Vals [] us → us = []
  | _, .nil => rfl
theorem Vals.reverse {xs : List V} {us : List Value} (h : Vals xs us) : Vals xs.reverse us.reverse := by
  induction h with
  | nil => exact .nil
  | cons r t ih => rw [List.reverse_cons, List.reverse_cons]; exact Vals.append ih (.cons r .nil)
section
variable {X : Cx} {pins : List (Addr × Obj)} {σ : St} {H : Hp} {s : Shared} {l b : Addr} {xs ys zs : List V}
theorem Inv.lset {its its' : List Value} {n : Nat} {f : Array Value → Array Value} {t' : Nat} (I : Inv X pins σ H s) (hH : H l = some (.lst xs))
    (e : s.heap.get? l = some { cls := .type "list", data := .seq its.toArray n }) (hf : f its.toArray = its'.toArray) (hv : Vals ys its') (hz : ys.length ≤ sizeLine) :
    Inv X pins σ (upd H l (.lst ys)) { s with heap := s.heap.update l (Obj.mapSeq f), toks := t' } := by
  have q := PySem.IsL.update e f
  rw [hf] at q
  refine I.write (x := l) (e := l) (by rw [hH]; exact trivial) (.inl rfl) (fun b' u hb hu => (Heap.get?_update_other s.heap (Obj.mapSeq f) (Ne.symm hb)).trans hu) ⟨_, q⟩ ?_
  exact ⟨hz, its', _, hv, q⟩
theorem Inv.lnew {its : List Value} {t' : Nat} (I : Inv X pins σ H s) (hv : Vals ys its) (hz : ys.length ≤ sizeLine) :
    Inv X pins σ (upd H s.heap.objs.size (.lst ys)) { s with heap := s.heap.push { cls := .type "list", data := .seq its.toArray }, toks := t' } :=
  I.laid (fun _ _ q => Heap.get?_push_of_some _ q) (Nat.le_refl _) ⟨hz, its, 0, hv, Heap.get?_push_size _ rfl⟩
theorem Inv.fresh (I : Inv X pins σ H s) : H s.heap.objs.size = none := I.hok.fresh (Nat.le_refl _)
theorem Inv.lstM (I : Inv X pins σ H s) (hH : H l = some (.lst xs)) : xs.length ≤ sizeLine ∧ ∃ (its : List Value) (n : Nat), Vals xs its ∧ xs.length = its.length ∧ s.heap.get? l = some { cls := .type "list", data := .seq its.toArray n } := by
  obtain ⟨z, its, n, r, e⟩ := I.hok l _ hH
  exact ⟨z, its, n, r, r.length, e⟩
end
section
variable {X : Cx}
def rAppend : V → List V → Hp → VK → Prop := fun x vs H Q => ∃ l xs y, x = .ref l ∧ vs = [y] ∧ H l = some (.lst xs) ∧ xs.length < sizeLine ∧ Q .non (upd H l (.lst (xs ++ [y])))
theorem mt_append : MtM X "list.append" rAppend := by
  intro pins s σ H x vs v us Q I rx rv h
  obtain ⟨l, xs, y, rfl, rfl, hH, hz, q⟩ := h
  cases rx
  obtain ⟨u, rfl, ru⟩ := rv.one
  obtain ⟨z, its, n, r, hl, e⟩ := I.lstM hH
  refine call_meets F.slot_list_append ⟨_, e, rfl⟩ F.entry_list_append (F.args_list_append_2 _ _) (PySem.list_append l its.toArray n u (by rw [List.size_toArray]; omega)) ⟨e, ?_⟩
  refine ⟨.non, _, I.lset (its' := its ++ [u]) hH e (by simp) (r.append (.cons ru .nil)) ?_, rfl, q⟩
  rw [List.length_append, List.length_singleton]
  omega
def rClear : V → List V → Hp → VK → Prop := fun x vs H Q => ∃ l xs, x = .ref l ∧ vs = [] ∧ H l = some (.lst xs) ∧ Q .non (upd H l (.lst []))
theorem mt_clear : MtM X "list.clear" rClear := by
  intro pins s σ H x vs v us Q I rx rv h
  obtain ⟨l, xs, rfl, rfl, hH, q⟩ := h
  cases rx
  have hus := rv.zero
  subst hus
  obtain ⟨z, its, n, r, hl, e⟩ := I.lstM hH
  refine call_meets F.slot_list_clear ⟨_, e, rfl⟩ F.entry_list_clear (F.args_list_clear_1 _) (AutoSeq1.list_clear_list_0 l its.toArray n (by rw [List.size_toArray]; omega)) ⟨e, ?_⟩
  exact ⟨.non, _, I.lset (its' := []) (ys := []) hH e rfl .nil (Nat.zero_le _), rfl, q⟩
end
end L2
namespace Att
open PySem PySem.W PySem.Calls PyProof.Rows
theorem ints_of_wellAll {P : Params} {h : Heap} : ∀ (ns : List Int) (vs : List Value), WellAll P h vs (ns.map WData.int) → IntsAre vs ns := by
  intro ns
  induction ns with
  | nil =>
    intro vs w
    rw [List.map_nil] at w
    cases w
    exact .nil
  | cons n ns ih =>
    intro vs w
    rw [List.map_cons] at w
    cases w with
    | cons a b =>
      cases a
      exact .cons _ _ (ih _ b)
theorem script_of {l : OpenLaw} {n : Nat} (hn : l.most = some n) {P : Params} {h : Heap} {args : List WData} {vals : List Value}
    (hpre : l.row.toRowW.claim.pre args = true) (hwl : WellAll P h vals args) :
    ∃ a vs ns, vals = [Value.ref a] ∧ args = [WData.list (ns.map WData.int)] ∧ h.get? a = some { cls := .type "list", data := .seq vs.toArray } ∧ IntsAre vs ns ∧ ns.length ≤ n := by
  have hsh : WShape.hasAll [] args [.list .int] = true := (pre_splitW hpre).1
  have hc : l.pre.holds [] { args := args } = true := (pre_splitW hpre).2
  obtain ⟨d, r, rfl, h1, h2⟩ := hasAllW_cons hsh
  obtain rfl := hasAllW_nil h2
  obtain ⟨xs, rfl, h3⟩ := hasW_list h1
  obtain ⟨ns, rfl⟩ := items_int h3
  have hlen : ns.length ≤ n := by
    unfold OpenLaw.pre at hc
    have h4 : (WTm.not (.lt (.lit (.int (n : Int))) (.len (.arg 0)))).holds [] { args := [.list (ns.map .int)] } = true := by
      have h4 := (holds_andW hc).1
      rw [hn] at h4
      exact h4
    have h5 := condW_of h4 (w_not (w_lt w_lit (w_len_list (w_arg rfl))))
    rw [List.length_map] at h5
    refine Nat.le_of_not_lt fun q => ?_
    have q' : (n : Int) < ((ns.length : Nat) : Int) := by omega
    first
      | (rw [decide_eq_true q'] at h5; exact absurd h5 (by decide))
      | (simp at h5; omega)
  cases hwl with
  | cons w1 w2 =>
    cases w2
    cases w1 with
    | list ho hall => exact ⟨_, _, ns, rfl, rfl, ho, ints_of_wellAll ns _ hall, hlen⟩
theorem post_true (l : OpenLaw) (args : List WData) : l.row.toRowW.claim.post args (.bool true) args = true :=
  postW_of (r := l.row.toRowW) (X := (true == true))
    (show WShape.has [] (.bool true) .bool = true by first | rfl | decide | simp [WShape.has, WShape.arms, WShape.armsAll])
    (show (WTm.eq .res (.lit (.bool true))).value [] { args := args, res := some (.bool true), after := args } = some (.bool (true == true)) from w_eq_bool (w_res rfl) w_lit) rfl
theorem attach_call {l : OpenLaw} {n : Nat} {q : Program} {loose : List Str} {XP : (Str → Option Value) → Heap → Prop} {YP : World → Heap → Prop} {d : DefRec}
    (hn : l.most = some n) (hdf : d.params.defaults = [])
    (call : ∀ (w : World) (s₀ s₁ : Shared) (mg mb : Str → Option Value) (fa : Addr) (o : Obj) (pm cd doc : Value) (a : Addr) (vs : List Value) (ns : List Int),
      Ground q loose [] XP w s₀ mg mb s₁.heap → YP w s₁.heap →
      s₁.heap.get? fa = some o → o.data = .func (docDef d.name d.params d.body d.scope pm cd doc) → s₁.heap.CodeRec cd d.name → mg d.name = some (.ref fa) →
      s₁.heap.get? a = some { cls := .type "list", data := .seq vs.toArray } → IntsAre vs ns → ns.length ≤ n → s₁.gens = #[] →
      codeAny (model l.prog w) callerA (.call (.ref fa) ⟨[.ref a], []⟩) (fun r s' => r = .ok (.ret (.bool true)) ∧ OldK s₁.heap s'.heap ∧ s'.os = s₁.os ∧ AllBare s'.gens) s₁) :
    WalkO q loose XP YP l.row.toRowW d [] (fun f vs => PySem.call f vs) := by
  intro w s₀ s₁ mg mb G Y fa o pm cd doc dV kV ho hd hcd hD hmg hg args vals as hpre hlay hrd hwl hlo
  obtain rfl : dV = .none := Dflts.none hD hdf
  obtain rfl : kV = .none := Dflts.noKw hD
  obtain ⟨a, vs, ns, rfl, rfl, hobj, hints, hlen⟩ := script_of hn hpre hwl
  refine enter_call (codeAny_mono (call w s₀ s₁ mg mb fa o pm cd doc a vs ns G Y ho (fd_plain hd) hcd hmg hobj hints hlen hg) fun r s' hq => ?_)
  obtain ⟨rfl, h2, h3, h4⟩ := hq
  exact ⟨.inl ⟨.bool true, .bool true, [], rfl, fun _ => rfl, .bool true, post_true l _, fun _ => ⟨List.Pairwise.nil, fun _ hm => (nomatch hm)⟩⟩, h2, h3, h4⟩
end Att
namespace L2
open PySem PySem.Spec PyProof.Rows
theorem vals_ints : ∀ {vs : List Value} {ns : List Int}, IntsAre vs ns → Vals (ns.map V.int) vs
  | _, _, .nil => .nil
  | _, _, .cons n t h => .cons ⟨t, rfl⟩ (vals_ints h)
def Only (H : Hp) : Prop := ∀ b, H b = none ∨ ∃ o xs, H b = some (.frz o (.lst xs))
end L2
/- THE LAST THEOREM (shape; LID, My.* are yours):
   My.Adr: a structure of the addresses that your layer names (classes, functions); My.Txt K t: a structure (Prop) of the equations over K;
   My.txt_mk : {K} {implicit addresses ..} (e1 : nsIn K mainGlobals "law" = some (some (.ref f))) (e2 : K.lookup f = some ⟨oc, od, .func (fnOf "law" "law" params body scope dV kV doc pm an cdv ct), sl⟩) (e3 : codeIn K cdv "law" = true) .. : ∃ t, My.Txt K t
(the tactic k_is has no namespace: write k_is) -/
namespace L2
open PySem PySem.Spec PyProof.Rows
def defArgs (s : Stmt) : Arguments := match s with
  | .FunctionDef _ a _ _ _ _ _ _ _ _ => a
  | _ => { posonlyargs := [], args := [], vararg := none, kwonlyargs := [], kw_defaults := [], kwarg := none, defaults := [] }
def defBody (s : Stmt) : List Stmt := match s with
  | .FunctionDef _ _ b _ _ _ _ _ _ _ => b
  | _ => []
def defScope (s : Stmt) : Scope := match s with
  | .FunctionDef _ _ _ _ _ _ sc _ _ _ => sc
  | _ => { kind := .function, names := [], isGenerator := false, isCoroutine := false }
abbrev CX0 : CXT := fun _ _ _ _ _ _ => False
abbrev E0 : XK := fun _ _ _ => False
theorem pass0 {X : Cx} : Passes CX0 X E0 := fun _ _ _ _ _ _ _ h => h.elim
structure Fun (K : PySem.W.Frag) (x qual : Str) (st : Stmt) (f : Addr) (fd : FuncData) : Prop where
  ex : ∃ (oc : Value) (od : Option Addr) (kV doc pm : Value) (an : Option Addr) (cdv ct : Value) (osl : Array (Option Value)),
    fd = PySem.W.fnOf x qual (defArgs st) (defBody st) (defScope st) .none kV doc pm an cdv ct ∧ K.lookup f = some ⟨oc, od, .func fd, osl⟩ ∧ PySem.W.codeIn K cdv qual = true
  kp : PySem.W.keepIn K (.ref f) = true
section
variable {P : Program} {w : World} {K : PySem.W.Frag} {mg : Str → Option Value} {base : Heap}
theorem Fun.ok {x qual : Str} {st : Stmt} {f : Addr} {fd : FuncData} {N ps : List Str} {k : Nat} {sp : Sp} (F : Fun K x qual st f fd) (S : FnScope N ps (defScope st)) (len : ∀ vs H Q E, sp vs H Q E → vs.length = ps.length)
    (hbody : ∀ (cdv : Value) (A : Around) (outer : List Env) (s : Shared) (H : Hp) (vs : List V) (Q : VK) (E : XK), Room k (A.deeper (envOfC qual (defScope st) s.heap.objs.size f cdv)) → sp vs H Q E →
      ∃ t, PSs (cxOf CX0 P w K mg base N qual (defScope st) f cdv A outer s H E).nox (defBody st) t ∧ t { nx := fun _ H' => Q .non H', rt := Q } (start N vs) H) : FnOk P w K mg base CX0 (k + 1) f fd ps sp := by
  obtain ⟨oc, od, kV, doc, pm, an, cdv, ct, osl, rfl, lk, hcd⟩ := F.ex
  refine fn_of lk hcd S len fun A outer s H vs Q E hr hsp => ?_
  obtain ⟨t, h, q⟩ := hbody cdv A outer s H vs Q E hr hsp
  exact ⟨t, h.nox, q⟩
theorem Fun.binds {x qual : Str} {st : Stmt} {f : Addr} {fd : FuncData} {ps : List Str} (F : Fun K x qual st f fd)
    (h : ∀ (kV doc pm : Value) (an : Option Addr) (cdv ct : Value) (us : List Value), us.length = ps.length → bindArgs (PySem.W.fnOf x qual (defArgs st) (defBody st) (defScope st) .none kV doc pm an cdv ct) ⟨us, []⟩ = pure (ps.zip us)) : Binds K fd ps [] := by
  obtain ⟨oc, od, kV, doc, pm, an, cdv, ct, osl, rfl, lk, hcd⟩ := F.ex
  exact .all (h kV doc pm an cdv ct)
theorem fun_mk {x qual : Str} {st : Stmt} {f : Addr} {oc : Value} {od an : Option Addr} {osl : Array (Option Value)} {kV doc pm cdv ct : Value} (l : K.lookup f = some ⟨oc, od, .func (PySem.W.fnOf x qual (defArgs st) (defBody st) (defScope st) .none kV doc pm an cdv ct), osl⟩)
    (c : PySem.W.codeIn K cdv qual = true) (k : PySem.W.keepIn K (.ref f) = true) : Fun K x qual st f (PySem.W.fnOf x qual (defArgs st) (defBody st) (defScope st) .none kV doc pm an cdv ct) := ⟨⟨oc, od, kV, doc, pm, an, cdv, ct, osl, rfl, l, c⟩, k⟩
end
section
variable {X : Cx}
theorem pv (i : Nat) {x : Str} {pos : Pos} (hN : X.N[i]? = some x := by rfl) (hv : Vis X.env.scope x := by first | exact Or.inl rfl | exact Or.inr (Or.inl rfl) | exact Or.inr (Or.inr rfl)) (hd : (x == ("__debug__" : Str)) = false := by decide)
    (hcd : (x == ("__classdict__" : Str)) = false := by decide) : PE X (.Name x pos) (tVar i) := pe_var hN hv hd hcd
end
theorem iteF {A B : Prop} (h : B) : if false = true then A else B := by
  rw [if_neg Bool.false_ne_true]
  exact h
theorem iteT {A B : Prop} (h : A) : if true = true then A else B := by
  rw [if_pos rfl]
  exact h
def Same (H H' : Hp) : Prop := ∀ b o, H b = some o → H' b = some o
theorem Same.refl (H : Hp) : Same H H := fun _ _ h => h
theorem Same.trans {H H1 H2 : Hp} (a : Same H H1) (b : Same H1 H2) : Same H H2 := fun c o h => b c o (a c o h)
theorem Same.free {H H' : Hp} (e : Same H H') {l : Addr} (h : H' l = Option.none) : H l = Option.none := by
  cases q : H l with
  | none => rfl
  | some o =>
    rw [e l o q] at h
    cases h
end L2
set_option Elab.async false
set_option linter.all false
set_option maxHeartbeats 1000000
set_option Elab.async false
set_option linter.all false
set_option maxHeartbeats 1000000
set_option Elab.async false
set_option linter.all false
set_option maxHeartbeats 4000000
set_option Elab.async false
set_option linter.all false
set_option maxHeartbeats 4000000
set_option Elab.async false
set_option linter.all false
set_option maxHeartbeats 4000000
set_option Elab.async false
set_option linter.all false
set_option maxHeartbeats 4000000
set_option Elab.async false
set_option linter.all false
set_option maxHeartbeats 4000000
set_option Elab.async false
set_option linter.all false
set_option maxHeartbeats 4000000
set_option Elab.async false
set_option linter.all false
set_option maxRecDepth 100000
set_option maxHeartbeats 4000000
namespace L2
open PySem PySem.Spec PyProof.Rows
def clOf (sc : Scope) (env : Env) : List (Str × Addr) := sc.names.foldl (fun cs p => if p.2 = .free then (p.1, (env.cells.lookup p.1).getD 0) :: cs else cs) []
theorem clos_go (env : Env) : ∀ (ns : List (Str × NameKind)) (acc : List (Str × Addr)), (∀ p ∈ ns, p.2 = .free → ∃ c, env.cells.lookup p.1 = some c) →
    (forIn ns acc (fun (x : Str × NameKind) (r : List (Str × Addr)) => match x with | (name, kind) => if (kind == .free) = true then (do let c ← cellOf env name; pure (ForInStep.yield ((name, c) :: r))) else pure (ForInStep.yield r)) : Sem _) =
      pure (ns.foldl (fun cs p => if p.2 = .free then (p.1, (env.cells.lookup p.1).getD 0) :: cs else cs) acc)
  | [], acc, _ => rfl
  | (n, k) :: ns, acc, h => by
    rw [List.forIn_cons]
    by_cases hk : k = .free
    · subst hk
      obtain ⟨c, hc⟩ := h (n, .free) (List.mem_cons_self ..) rfl
      have e1 : cellOf env n = pure c := by
        unfold cellOf
        rw [hc]
      dsimp only
      rw [if_pos (by rfl), e1, pure_bind, pure_bind, List.foldl_cons, if_pos rfl, hc]
      exact clos_go env ns _ fun p hp => h p (List.mem_cons_of_mem _ hp)
    · dsimp only
      rw [if_neg (by simpa using hk), pure_bind, List.foldl_cons, if_neg hk]
      exact clos_go env ns _ fun p hp => h p (List.mem_cons_of_mem _ hp)
theorem clos_eq {sc : Scope} {env : Env} (h : ∀ p ∈ sc.names, p.2 = .free → ∃ c, env.cells.lookup p.1 = some c) : closureFor sc env = pure (clOf sc env) := by
  unfold closureFor clOf
  have := clos_go env sc.names [] h
  exact (congrArg (fun m : Sem (List (Str × Addr)) => m >>= fun r => pure r) this).trans rfl
theorem cl_spec (env : Env) : ∀ (ns : List (Str × NameKind)) (acc : List (Str × Addr)) (y : Str) (c : Addr), (ns.foldl (fun cs p => if p.2 = .free then (p.1, (env.cells.lookup p.1).getD 0) :: cs else cs) acc).lookup y = some c →
    acc.lookup y = some c ∨ ((y, NameKind.free) ∈ ns ∧ c = (env.cells.lookup y).getD 0)
  | [], acc, y, c, h => .inl h
  | (n, k) :: ns, acc, y, c, h => by
    rw [List.foldl_cons] at h
    rcases cl_spec env ns _ y c h with h1 | ⟨h1, h2⟩
    · by_cases hk : k = .free
      · rw [if_pos hk, List.lookup_cons] at h1
        by_cases hy : (y == n) = true
        · rw [hy] at h1
          have e : y = n := eq_of_beq hy
          subst e
          exact .inr ⟨by rw [hk]; exact List.mem_cons_self .., (Option.some.inj h1).symm⟩
        · rw [Bool.not_eq_true] at hy
          rw [hy] at h1
          exact .inl h1
      · rw [if_neg hk] at h1
        exact .inl h1
    · exact .inr ⟨List.mem_cons_of_mem _ h1, h2⟩
theorem cl_has (env : Env) : ∀ (ns : List (Str × NameKind)) (acc : List (Str × Addr)) (y : Str), ((y, NameKind.free) ∈ ns ∨ ∃ c, acc.lookup y = some c) → ∃ c, (ns.foldl (fun cs p => if p.2 = .free then (p.1, (env.cells.lookup p.1).getD 0) :: cs else cs) acc).lookup y = some c
  | [], acc, y, h => by
    rcases h with h | h
    · cases h
    · exact h
  | (n, k) :: ns, acc, y, h => by
    rw [List.foldl_cons]
    refine cl_has env ns _ y ?_
    rcases h with h | ⟨c, h⟩
    · rcases List.mem_cons.mp h with e | h
      · injection e with e1 e2
        subst e1 e2
        rw [if_pos rfl, List.lookup_cons]
        exact .inr ⟨_, by rw [beq_self_eq_true]⟩
      · exact .inl h
    · refine .inr ?_
      split
      · rw [List.lookup_cons]
        cases y == n with
        | true => exact ⟨_, rfl⟩
        | false => exact ⟨c, h⟩
      · exact ⟨c, h⟩
structure CompSc (osc : Scope) (N : List Str) (sc : Scope) (x : Str) (ys : List Str) : Prop where
  kind : sc.kind = .function
  xloc : sc.names.lookup x = some .local
  nocell : ∀ p ∈ sc.names, p.2 ≠ .cell
  locs : ∀ p ∈ sc.names, p.2 = .local → sc.names.lookup p.1 = some .local
  free : ∀ p ∈ sc.names, p.2 = .free → osc.names.lookup p.1 = some .cell ∨ osc.names.lookup p.1 = some .free
  nd : (x :: ys).Nodup
  len : ys.length = N.length
  pl : ∀ p ∈ ys.zip N, sc.names.lookup p.1 = some .free → p.1 = p.2
  nl : ∀ y ∈ ys, sc.names.lookup y ≠ some .local
def compOk (osc : Scope) (N : List Str) (sc : Scope) (x : Str) (ys : List Str) : Bool :=
  decide (sc.kind = .function) && decide (sc.names.lookup x = some .local) && decide (∀ p ∈ sc.names, p.2 ≠ .cell) && decide (∀ p ∈ sc.names, p.2 = .local → sc.names.lookup p.1 = some .local) &&
  decide (∀ p ∈ sc.names, p.2 = .free → osc.names.lookup p.1 = some .cell ∨ osc.names.lookup p.1 = some .free) && decide ((x :: ys).Nodup) && decide (ys.length = N.length) &&
  decide (∀ p ∈ ys.zip N, sc.names.lookup p.1 = some .free → p.1 = p.2) && decide (∀ y ∈ ys, sc.names.lookup y ≠ some .local)
theorem CompSc.of {osc : Scope} {N : List Str} {sc : Scope} {x : Str} {ys : List Str} (h : compOk osc N sc x ys = true) : CompSc osc N sc x ys := by
  unfold compOk at h
  simp only [Bool.and_eq_true, decide_eq_true_eq] at h
  obtain ⟨⟨⟨⟨⟨⟨⟨⟨h1, h2⟩, h3⟩, h4⟩, h5⟩, h6⟩, h7⟩, h8⟩, h9⟩ := h
  exact ⟨h1, h2, h3, h4, h5, h6, h7, h8, h9⟩
def Cx.blk (X : Cx) (sc : Scope) (x : Str) (ys : List Str) (ex : List Addr) (C : Addr) (s : Shared) (H : Hp) : Cx where
  prog := X.prog
  w := X.w
  K := X.K
  mg := X.mg
  base := X.base
  A := X.A
  N := x :: ys
  s₀ := s
  H₀ := H
  env := compEnvC sc (clOf sc X.env) C X.env
  outer := X.stack
  stack := X.stack
  ex := ex
  fn := fun _ => false
  calm := X.calm
  pn := []
  xe := fun _ _ => False
theorem lookup_relabel {env : Env} : ∀ {ns : List (Str × NameKind)} {y : Str} {k : NameKind}, (ns.map fun (n, k) => if (k == NameKind.free && env.scope.kind == .function && env.kindOf n == some .cell) then (n, NameKind.cell) else (n, k)).lookup y = some k →
    ns.lookup y = some k ∨ (ns.lookup y = some .free ∧ k = .cell)
  | [], y, k, h => by cases h
  | (n, j) :: ns, y, k, h => by
    rw [List.map_cons] at h
    dsimp only at h
    cases hy : y == n with
    | true =>
      by_cases hc : (j == NameKind.free && env.scope.kind == .function && env.kindOf n == some .cell) = true
      · rw [if_pos hc, List.lookup_cons, hy] at h
        have hj : j = .free := by
          simp only [Bool.and_eq_true] at hc
          exact eq_of_beq hc.1.1
        refine .inr ⟨?_, (Option.some.inj h).symm⟩
        rw [List.lookup_cons, hy, hj]
      · rw [if_neg hc, List.lookup_cons, hy] at h
        refine .inl ?_
        rw [List.lookup_cons, hy]
        exact h
    | false =>
      have h' : (ns.map fun (n, k) => if (k == NameKind.free && env.scope.kind == .function && env.kindOf n == some .cell) then (n, NameKind.cell) else (n, k)).lookup y = some k := by
        by_cases hc : (j == NameKind.free && env.scope.kind == .function && env.kindOf n == some .cell) = true
        · rw [if_pos hc, List.lookup_cons, hy] at h
          exact h
        · rw [if_neg hc, List.lookup_cons, hy] at h
          exact h
      rw [List.lookup_cons, hy]
      exact lookup_relabel h'
section
variable {X : Cx} {pins : List (Addr × Obj)} {σ : St} {H : Hp} {s : Shared} {sc : Scope} {x : Str} {ys : List Str}
theorem CompSc.cell (cs : CompSc X.env.scope X.N sc x ys) (I : Inv X pins σ H s) {y : Str} (h : (y, NameKind.free) ∈ sc.names) : ∃ c, X.env.cells.lookup y = some c := I.ok.has y (cs.free _ h rfl)
theorem CompSc.cl (cs : CompSc X.env.scope X.N sc x ys) (I : Inv X pins σ H s) {y : Str} {c : Addr} (h : (clOf sc X.env).lookup y = some c) : X.env.cells.lookup y = some c ∧ (y, NameKind.free) ∈ sc.names := by
  rcases cl_spec X.env sc.names [] y c h with h1 | ⟨h1, h2⟩
  · cases h1
  · obtain ⟨d, hd⟩ := cs.cell I h1
    rw [hd] at h2
    rw [h2]
    exact ⟨hd, h1⟩
theorem blk_ok (cs : CompSc X.env.scope X.N sc x ys) (I : Inv X pins σ H s) {fp : List Addr} (hf : ∀ b ∈ fp, FpOk X pins H b) (hlt : ∀ b ∈ fp, b < s.heap.objs.size) {C : Addr} (hC : s.heap.objs.size ≤ C) : (X.blk sc x ys fp C s H).Ok where
  mod := I.ok.mod
  kind := cs.kind
  glob := I.ok.glob
  blt := I.ok.blt
  above := hC
  inj := fun y z c h1 h2 => I.ok.inj y z c (cs.cl I h1).1 (cs.cl I h2).1
  has := fun y hy => by
    have hy' : (relabel sc X.env).names.lookup y = some .cell ∨ (relabel sc X.env).names.lookup y = some .free := hy
    have hf : (y, NameKind.free) ∈ sc.names := by
      rcases hy' with h | h
      · rcases lookup_relabel h with h1 | ⟨h1, _⟩
        · exact absurd rfl (cs.nocell _ (PySem.mem_of_lookup h1))
        · exact PySem.mem_of_lookup h1
      · rcases lookup_relabel h with h1 | ⟨h1, _⟩
        · exact PySem.mem_of_lookup h1
        · exact PySem.mem_of_lookup h1
    exact cl_has X.env sc.names [] y (.inl hf)
  cab := fun y c h => by cases h
  hd := I.ok.hd
  frames := I.ok.frames
  stk := .inl rfl
  exf := fun b hb => ⟨fun e => by
    have := hlt b hb
    rw [e] at this
    exact absurd (Nat.lt_of_lt_of_le this hC) (Nat.lt_irrefl _), fun y c h => (hf b hb).2.2.2.2.1 y c (cs.cl I h).1⟩
  bs := I.bs
  bsz := Nat.le_trans I.ok.bsz I.sz
  noex := fun b o e hb => by
    rcases (hf b hb).2.2.2.1 with h | h
    · exact I.ok.noex b o e h
    · exact absurd (Nat.lt_of_lt_of_le (Heap.lt_size e) (Nat.le_trans I.ok.bsz h)) (Nat.lt_irrefl _)
  exfs := fun b hb h => (List.mem_cons.mp (I.stkSub b h)).elim (hf b hb).2.1 (hf b hb).2.2.1
  funs := I.stack
  frf := I.stkFree
end
end L2
set_option Elab.async false
set_option linter.all false
set_option maxRecDepth 100000
set_option maxHeartbeats 4000000
namespace L2
open PySem PySem.Spec PyProof.Rows
def PIfs (X : Cx) (ifs : List Expr) (t : TT) : Prop :=
  ∀ (pins : List (Addr × Obj)) (s : Shared) (σ : St) (H : Hp) (Q : Bool → Hp → Prop), Inv X pins σ H s → t σ H Q →
    wpAny (model X.prog X.w) X.A (forIn ifs true fun c r => if r = true then do let ok ← isTrue c X.env (eval c X.env); pure (ForInStep.yield ok) else pure (ForInStep.yield r)) (TP X pins σ Q) X.xe s
theorem pifs_nil {X : Cx} : PIfs X [] (fun _ H Q => Q true H) := fun pins s σ H Q I h => wpAny_tests_nil ⟨H, I, h⟩
theorem pifs_one {X : Cx} {c : Expr} {t : TT} (h : PT X c t) : PIfs X [c] t := fun pins s σ H Q I q => wpAny_tests_one (h pins s σ H Q I q)
def tComp (wi : TI) (tt : TT) (te : TE) : TE := fun σ H Q => wi σ H fun J H1 => ∃ W : Nat → Nat → List V → Hp → Prop, (∃ m, W 0 m [] H1) ∧ ∀ i m acc H, W i m acc H →
  (J.stop i H ∧ ∀ p, H p = none → Q (.ref p) (upd H p (.lst acc))) ∨ (J.go i H ∧ acc.length < sizeLine ∧ ∀ y H', J.yld i H y H' → tt (some y :: σ) H' fun b H2 =>
    if b = true then te (some y :: σ) H2 fun z H3 => ∃ m', m' < m ∧ W (i + 1) m' (acc ++ [z]) H3 else ∃ m', m' < m ∧ W (i + 1) m' acc H2)
section
variable {X : Cx} {sc : Scope} {x : Str} {ys : List Str} {px : Pos} {elt iter : Expr} {ifs : List Expr} {pos : Pos} {wi : TI} {tt : TT} {te : TE}
def lobj (its : List Value) (n : Nat) : Obj := { cls := .type "list", data := .seq its.toArray n }
theorem comp_run {M : Value → Env → Result → Shared → Prop} {pins : List (Addr × Obj)} {σ : St} {H : Hp} {s : Shared} {E : Value → Shared → Prop} (hc : X.calm = true) (cs : CompSc X.env.scope X.N sc x ys) (I : Inv X pins σ H s)
    (ht : ∀ ex C s H, PIfs (X.blk sc x ys ex C s H) ifs tt) (he : ∀ ex C s H, PE (X.blk sc x ys ex C s H) elt te)
    {it : Addr} {fp : List Addr} {tn : Nat → Heap → Prop} {J : It} (T : Turn X.prog X.w X.K (.Name x px) J fp it tn) (st : tn 0 s.heap) (hf : ∀ b ∈ fp, FpOk X pins H b)
    {W : Nat → Nat → List V → Hp → Prop} {m0 : Nat} (w0 : W 0 m0 [] H) {F : List V → Hp → Prop}
    (turn : ∀ i m acc H, W i m acc H → (J.stop i H ∧ F acc H) ∨ (J.go i H ∧ acc.length < sizeLine ∧ ∀ y H', J.yld i H y H' → tt (some y :: σ) H' fun b H2 =>
      if b = true then te (some y :: σ) H2 fun z H3 => ∃ m', m' < m ∧ W (i + 1) m' (acc ++ [z]) H3 else ∃ m', m' < m ∧ W (i + 1) m' acc H2))
    (hM : ∀ (D C : Addr) (cenv : Env) (s' : Shared) (acc : List V) (H' : Hp) (its : List Value) (n : Nat), cenv.locals = C → D ≠ C → s.heap.objs.size ≤ D → s.heap.objs.size ≤ C → Inv (X.blk sc x ys fp C s H) [(D, lobj its n)] (none :: σ) H' s' → Vals acc its → acc.length ≤ sizeLine → F acc H' →
      M (.ref D) cenv (.ok .next) s') :
    wpAny (model X.prog X.w) X.A (newList []) (fun acc s₃ => wpAny (model X.prog X.w) X.A (newFunctionEnv sc X.env.globals (clOf sc X.env) [] X.env.qual none .none (some X.env)) (fun cenv s₄ =>
      codeAny (model X.prog X.w) X.A (.compStart (.ListComp elt [⟨.Name x px, iter, ifs, 0⟩] sc pos) 0 (.ref it) acc { cenv with scope := relabel sc X.env }) (M acc cenv) s₄) E s₃) E s := by
  have hlt : ∀ b ∈ fp, b < s.heap.objs.size := fun b hb => by
    obtain ⟨o, e, _⟩ := T.obj 0 _ st b hb
    exact Heap.lt_size e
  refine wpAny_newObj_type (wpAny_newFunctionEnv cs.nocell (by intro y hy; simp at hy) (fun h1 hns hsb => ?_) cs.kind)
  dsimp only at hns hsb ⊢
  generalize hH2 : s.heap.push { cls := .type "list", dict := none, data := .seq ([] : List Value).toArray } = h2 at hns hsb ⊢
  have hC : h2.objs.size = s.heap.objs.size + 1 := by rw [← hH2, Heap.size_push]
  have hDC : s.heap.objs.size ≠ h2.objs.size := by omega
  have old : ∀ b o, s.heap.get? b = some o → h1.get? b = some o := fun b o e => by
    have hb := Heap.lt_size e
    rw [hsb.2 b (by rw [hC]; exact Nat.ne_of_lt (Nat.lt_succ_of_lt hb))]
    exact Heap.get?_push_of_some _ (hH2 ▸ Heap.get?_push_of_some _ e)
  have hD : h1.get? s.heap.objs.size = some (lobj [] 0) := by
    rw [hsb.2 _ hDC]
    exact Heap.get?_push_of_some _ (hH2 ▸ Heap.get?_push_size _ rfl)
  generalize hCe : h2.objs.size = C at *
  have hCle : s.heap.objs.size ≤ C := by omega
  have hfresh : ∀ b, s.heap.objs.size ≤ b → H b = none := fun b hb => I.hok.fresh hb
  have nofs : ∀ b, s.heap.objs.size ≤ b → b ∉ frs X.stack := fun b hb z => by
    obtain ⟨_, o, ho, _⟩ := (I.stack).mem z
    exact absurd (Nat.lt_of_lt_of_le (Heap.lt_size ho) hb) (Nat.lt_irrefl _)
  have I0 : Inv (X.blk sc x ys fp C s H) [(s.heap.objs.size, lobj [] 0)] (none :: σ) H { s with heap := h1, toks := s.toks + ([] : List (Str × Value)).length } := by
    refine ⟨blk_ok cs I hf hlt hCle, rfl, I.bare, Un.kept old, ⟨_, hns, fun i y v e1 e2 e3 => ?_⟩, fun y c e => ?_, hfresh _ hCle, fun y c e => I.freeC y c (cs.cl I e).1, fun p hp => ?_, I.hok.kept old, ?_⟩
    · cases i with
      | zero => cases e2
      | succ i =>
        have e1' : ys[i]? = some y := e1
        have e2' : σ[i]? = some (some v) := e2
        have e3' : (relabel sc X.env).names.lookup y = some .local ∨ (relabel sc X.env).names.lookup y = some .cell ∨ (relabel sc X.env).names.lookup y = some .free := e3
        have hfr : sc.names.lookup y = some .free := by
          rcases e3' with h | h | h
          · rcases lookup_relabel h with h1 | ⟨_, h1⟩
            · exact absurd h1 (cs.nl y (List.mem_of_getElem? e1'))
            · cases h1
          · rcases lookup_relabel h with h1 | ⟨h1, _⟩
            · exact absurd rfl (cs.nocell _ (PySem.mem_of_lookup h1))
            · exact h1
          · rcases lookup_relabel h with h1 | ⟨h1, _⟩
            · exact h1
            · exact h1
        have hi : i < X.N.length := by
          rw [← cs.len]
          exact (List.getElem?_eq_some_iff.mp e1').1
        have hN : X.N[i]? = some y := by
          have hz : (ys.zip X.N)[i]? = some (y, X.N[i]) := by
            rw [List.getElem?_zip_eq_some]
            exact ⟨e1', List.getElem?_eq_getElem hi⟩
          have := cs.pl _ (List.mem_of_getElem? hz) hfr
          dsimp only at this
          rw [this]
          exact List.getElem?_eq_getElem hi
        have hmem : (y, NameKind.free) ∈ sc.names := PySem.mem_of_lookup hfr
        obtain ⟨m, hn, hl⟩ := I.loc
        obtain ⟨u, r, lk⟩ := hl i y v hN e2' (.inr (cs.free _ hmem rfl))
        refine ⟨u, r, .inr ⟨?_, ?_⟩⟩
        · rcases e3' with h | h
          · rcases lookup_relabel h with h1 | ⟨_, h1⟩
            · rw [hfr] at h1
              cases h1
            · cases h1
          · exact h
        · rcases lk with ⟨k, _⟩ | ⟨_, c, e, z⟩
          · rcases cs.free _ hmem rfl with h | h
            · have k' : X.env.scope.names.lookup y = some .local := k
              rw [h] at k'
              cases k'
            · have k' : X.env.scope.names.lookup y = some .local := k
              rw [h] at k'
              cases k'
          · obtain ⟨c', hc'⟩ := cl_has X.env sc.names [] y (.inl hmem)
            have : c' = c := by
              have := (cs.cl I (show (clOf sc X.env).lookup y = some c' from hc')).1
              rw [e] at this
              exact (Option.some.inj this).symm
            subst this
            obtain ⟨o, ho, hd⟩ := z
            exact ⟨c', hc', o, old _ _ ho, hd⟩
    · obtain ⟨v, o, ho, hd⟩ := I.cell y c (cs.cl I e).1
      exact ⟨v, o, old _ _ ho, hd⟩
    · obtain rfl : p = (s.heap.objs.size, lobj [] 0) := by simpa using (show p ∈ ([] : List (Addr × Obj)) ++ [(s.heap.objs.size, lobj [] 0)] from hp)
      exact ⟨hD, hfresh _ (Nat.le_refl _), hDC, nofs _ (Nat.le_refl _), fun v z => by cases z⟩
    · show (none :: σ).length = (x :: ys).length
      rw [List.length_cons, List.length_cons, I.len, cs.len]
  have fpD : s.heap.objs.size ∉ fp := fun z => Nat.lt_irrefl _ (hlt _ z)
  have fpo : ∀ {pins' : List (Addr × Obj)} {H' : Hp} {s' : Shared} {σ' : St}, Inv (X.blk sc x ys fp C s H) pins' σ' H' s' → (∀ b ∈ fp, H' b = none) → (∀ p ∈ pins', p.1 ∉ fp) → ∀ b ∈ fp, FpOk (X.blk sc x ys fp C s H) pins' H' b := fun {pins' H' s' σ'} I' hn hp b hb =>
    ⟨hn b hb, (I'.ok.exf b hb).1, I'.ok.exfs b hb, .inl hb, (I'.ok.exf b hb).2, fun p hp' z => by
      have hp'' : p ∈ pins' := by simpa using (show p ∈ ([] : List (Addr × Obj)) ++ pins' from hp')
      exact hp p hp'' (z ▸ hb)⟩
  have loop : ∀ s3 : Shared, s3 = { s with heap := h1, toks := s.toks + ([] : List (Str × Value)).length } → ∀ cenv : Env, cenv.locals = C →
      codeAny (model X.prog X.w) X.A (.compLoop (.ListComp elt [⟨.Name x px, iter, ifs, 0⟩] sc pos) 0 (.ref it) (.ref s.heap.objs.size) (compEnvC sc (clOf sc X.env) C X.env)) (M (.ref s.heap.objs.size) cenv) s3 := by
    rintro s3 rfl cenv hce
    refine codeAny_compLoop_tests (fun m s' => ∃ i acc H' its n, Inv (X.blk sc x ys fp C s H) [(s.heap.objs.size, lobj its n)] (none :: σ) H' s' ∧ Vals acc its ∧ acc.length ≤ sizeLine ∧ tn i s'.heap ∧ (∀ b ∈ fp, H' b = none) ∧ W i m acc H') ?_ m0
      ⟨0, [], H, [], 0, I0, .nil, Nat.zero_le _, T.keep 0 _ _ st fun b hb o e => old b o e, fun b hb => (hf b hb).1, w0⟩
    rintro m s' ⟨i, acc, H', its, n, I1, rv, hz, st1, fr1, w1⟩
    have noD : ∀ p ∈ [(s.heap.objs.size, lobj its n)], p.1 ∉ fp := fun p hp => by
      obtain rfl : p = (s.heap.objs.size, lobj its n) := by simpa using hp
      exact fpD
    rcases turn i m acc H' w1 with ⟨stop, fin⟩ | ⟨go, hz1, step⟩
    · refine wpAny_mono (T.done (X.blk sc x ys fp C s H) rfl rfl rfl hc i _ s' _ H' (fun _ _ => False) I1 (fpo I1 fr1 noD) st1 stop) (fun r s4 ⟨hr, I4⟩ => ?_) (fun _ _ z => z.elim)
      subst hr
      exact hM _ C cenv s4 acc H' its n hce hDC (Nat.le_refl _) hCle I4 rv hz fin
    · refine wpAny_mono (T.item (X.blk sc x ys fp C s H) rfl rfl rfl hc i _ s' _ H' (fun _ _ => False) I1 (fpo I1 fr1 noD) st1 go) (fun r s4 ⟨u, hr, h4⟩ => ?_) (fun _ _ z => z.elim)
      subst hr
      dsimp only
      have e0 : ∀ env : Env, (letOwnedTupleGo (.Name x px) (.ref it) u >>= fun _ => assign (.Name x px) env u) = assign (.Name x px) env u := fun env => by
        rw [show letOwnedTupleGo (.Name x px) (.ref it) u = pure () from rfl, pure_bind]
      rw [← e0]
      refine wpAny_bind (wpAny_mono h4 (fun _ s5 ⟨y, H5, I5, r5, y5, st5, fr5⟩ => ?_) (fun _ _ z => z.elim))
      have I5' := I5.pinned (fpo I5 fr5 noD) (T.obj _ _ st5)
      have xl : (X.blk sc x ys fp C s H).env.scope.names.lookup x = some .local := lookup_relabel_local cs.xloc
      refine wpAny_assign_Name (store_ok I5' cs.nd (i := 0) rfl (.inl xl) r5 (fun s6 I6 => ?_) (.inr xl))
      refine wpAny_mono (ht fp C s H _ s6 (some y :: σ) H5 _ I6 (step y H5 y5)) (fun b s7 ⟨H7, I7, q7⟩ => ?_) (fun _ _ z => z.elim)
      have keepT : ∀ {H' : Hp} {s' : Shared} {σ' : St} {pl : List (Addr × Obj)}, Inv (X.blk sc x ys fp C s H) (pl ++ pinsAt fp s5.heap) σ' H' s' → tn (i + 1) s'.heap ∧ ∀ b ∈ fp, H' b = none := fun {H' s' σ' pl} I' => by
        refine ⟨T.keep _ _ _ st5 fun b hb o e => (I'.pin (b, o) (List.mem_append_right _ (List.mem_append_right _ (mem_pinsAt hb e)))).1, fun b hb => ?_⟩
        obtain ⟨o, e, d⟩ := T.obj _ _ st5 b hb
        exact (I'.pin (b, o) (List.mem_append_right _ (List.mem_append_right _ (mem_pinsAt hb e)))).2.1
      have wk : ∀ {H' : Hp} {s' : Shared} {pl : List (Addr × Obj)}, Inv (X.blk sc x ys fp C s H) pl (some y :: σ) H' s' → Inv (X.blk sc x ys fp C s H) pl (none :: σ) H' s' := fun {H' s' pl} I' => I'.weak (by simp) fun j v e => by
        cases j with
        | zero => cases e
        | succ j => exact e
      cases b with
      | false =>
        rw [if_neg Bool.false_ne_true] at q7
        obtain ⟨m', hm, w7⟩ := q7
        obtain ⟨t7, f7⟩ := keepT I7
        exact ⟨m', hm, i + 1, acc, H7, its, n, wk I7.unpinned, rv, hz, t7, f7, w7⟩
      | true =>
        rw [if_pos rfl] at q7
        refine wpAny_mono (he fp C s H _ s7 (some y :: σ) H7 _ I7 q7) (fun u8 s8 ⟨z, H8, I8, r8, m', hm, w8⟩ => ?_) (fun _ _ z => z.elim)
        obtain ⟨t8, f8⟩ := keepT I8
        obtain ⟨p1, p2, p3, p4, p5⟩ := I8.pin (s.heap.objs.size, lobj its n) (List.mem_append_right _ (List.mem_append_left _ (List.mem_singleton.mpr rfl)))
        have hl := rv.length
        refine wpAny_list_append_plain (items := its.toArray) ⟨n, p1⟩ (fun h9 pl9 sb9 => ?_) (by rw [List.size_toArray]; omega)
        obtain ⟨n9, e9⟩ := pl9
        have e9' : h9.get? s.heap.objs.size = some (lobj (its ++ [u8]) n9) := by
          rw [e9]
          unfold lobj
          simp
        have Ia : Inv (X.blk sc x ys fp C s H) (pinsAt fp s5.heap) (none :: σ) H8 s8 := (wk I8).pins_of fun p hp => I8.pin p (List.mem_append_right _ (List.mem_append_right _ hp))
        have Ib : Inv (X.blk sc x ys fp C s H) (pinsAt fp s5.heap) (none :: σ) H8 { s8 with heap := h9, toks := s8.toks } := Ia.turned (it := s.heap.objs.size) (fun b o hb e => (sb9.2 b hb).trans e) p2 p3 (.inr (Nat.le_refl _))
          (fun y c e z => by
            obtain ⟨v, o, ho, _⟩ := I.cell y c (cs.cl I e).1
            exact absurd (Heap.lt_size ho) (by rw [z]; exact Nat.lt_irrefl _))
          (fun p hp z => by
            have hp' : p ∈ pinsAt fp s5.heap := by simpa using (show p ∈ ([] : List (Addr × Obj)) ++ pinsAt fp s5.heap from hp)
            exact fpD (z ▸ (of_pinsAt hp').1))
        refine ⟨m', hm, i + 1, acc ++ [z], H8, its ++ [u8], n9, Ib.pins_of fun p hp => ?_, rv.append (.cons r8 .nil), ?_, T.keep _ _ _ t8 fun b hb o e => ?_, f8, w8⟩
        · obtain rfl : p = (s.heap.objs.size, lobj (its ++ [u8]) n9) := by simpa using hp
          exact ⟨e9', p2, p3, p4, fun v z => by cases z⟩
        · rw [List.length_append, List.length_singleton]
          omega
        · exact (sb9.2 b (fun z => fpD (z ▸ hb))).trans e
  exact codeAny_compStart_list (loop _ rfl _ rfl) (T.self _ 0 _ _ _ (T.keep 0 _ _ st fun b hb o e => old b o e) (loop _ rfl _ rfl))
end
end L2
set_option Elab.async false
set_option linter.all false
set_option maxRecDepth 100000
set_option maxHeartbeats 4000000
namespace L2
open PySem PySem.Spec PyProof.Rows
section
variable {X : Cx} {sc : Scope} {x : Str} {ys : List Str} {px : Pos} {elt iter : Expr} {ifs : List Expr} {pos : Pos} {wi : TI} {tt : TT} {te : TE}
theorem comp_back {pins : List (Addr × Obj)} {σ σ' : St} {H H' : Hp} {s s' : Shared} (cs : CompSc X.env.scope X.N sc x ys) (I : Inv X pins σ H s) {fp : List Addr} (hf : ∀ b ∈ fp, FpOk X pins H b) {D C : Addr} {its : List Value} {n : Nat} {acc : List V}
    (I' : Inv (X.blk sc x ys fp C s H) [(D, lobj its n)] σ' H' s') (hDC : D ≠ C) (hD : s.heap.objs.size ≤ D) (hC : s.heap.objs.size ≤ C) (rv : Vals acc its) (hz : acc.length ≤ sizeLine) {h' : Heap} (sb : Heap.SameBut C s'.heap h') :
    Inv X pins σ (upd H' D (.lst acc)) { s' with heap := h' } := by
  obtain ⟨p1, p2, p3, p4, p5⟩ := I'.pin (D, lobj its n) (List.mem_append_right _ (List.mem_singleton.mpr rfl))
  have below : ∀ b o, s.heap.get? b = some o → b ≠ D ∧ b ≠ C := fun b o e => ⟨Nat.ne_of_lt (Nat.lt_of_lt_of_le (Heap.lt_size e) hD), Nat.ne_of_lt (Nat.lt_of_lt_of_le (Heap.lt_size e) hC)⟩
  have U : Un (frs X.stack) fp H H' s.heap s'.heap := I'.base
  have hfree : H' C = none := I'.free
  refine I.call' (ch := fp) I'.os ⟨fun b o e n hb hx => ?_, fun b o e n hb hx => ?_, fun b o e n hx => ?_, fun b o e hx => ?_, fun b xs e => ?_, fun b o u e => ?_, fun b ps e => ?_⟩ (fun b o e => ?_) I'.bare fun b hb => ⟨(hf b hb).2.2.2.1, (hf b hb).2.1, (hf b hb).2.2.2.2.1, (hf b hb).2.2.2.2.2⟩
  · exact (sb.2 b (below b o e).2).trans (U.keep b o e n hb hx)
  · obtain ⟨sl, q⟩ := U.slot b o e n hb hx
    exact ⟨sl, (sb.2 b (below b o e).2).trans q⟩
  · rw [upd_ne (below b o e).1]
    exact U.free b o e n hx
  · obtain ⟨o', q⟩ := U.there b o e hx
    exact ⟨o', (sb.2 b (below b o e).2).trans q⟩
  · rw [upd_ne (ne_of_none (U.tups b xs e) p2)]
    exact U.tups b xs e
  · rw [upd_ne (ne_of_none (U.frzs b o u e) p2)]
    exact U.frzs b o u e
  · obtain ⟨more, q⟩ := U.tbls b ps e
    exact ⟨more, by rw [upd_ne (ne_of_none q p2)]; exact q⟩
  · by_cases hb : b = D
    · subst hb
      rw [upd_same] at e
      cases e
      exact ⟨hz, its, n, rv, (sb.2 b hDC).trans p1⟩
    · rw [upd_ne hb] at e
      refine (I'.hok b o e).stay (fun c v hc q => (sb.2 c ?_).trans q) (fun c q => ?_) fun c xs q => ?_
      · rintro rfl
        rcases hc with hc | hc
        · rw [hc, e] at hfree
          cases hfree
        · rw [hc] at hfree
          cases hfree
      · rw [upd_ne (ne_of_none q p2)]
        exact q
      · rw [upd_ne (ne_of_none q p2)]
        exact q
theorem SameBut.rfl' (a : Addr) (h : Heap) : Heap.SameBut a h h := ⟨rfl, fun _ _ => rfl⟩
theorem pe_comp (hi : PI X (.Name x px) iter wi) (ys : List Str) (ht : ∀ ex C s H, PIfs (X.blk sc x ys ex C s H) ifs tt) (he : ∀ ex C s H, PE (X.blk sc x ys ex C s H) elt te) (hcs : compOk X.env.scope X.N sc x ys = true) (hc : X.calm = true := by rfl)
    (hs : ∀ x, foldedSetIterable iter X.env x = pure x := by intro _; rfl) : PE X (.ListComp elt [⟨.Name x px, iter, ifs, 0⟩] sc pos) (tComp wi tt te) := by
  have cs := CompSc.of hcs
  intro pins s σ H Q I h
  rw [eval_ListComp]
  refine wpAny_comprehension_free (use := none) (cl := clOf sc X.env) rfl hs (clos_eq fun p hp hk => cs.cell I (by rw [← hk]; exact hp)) cs.kind cs.locs ?_
  refine thn (hi pins s σ H _ I h) fun v s1 h1 => thn h1 fun itv s2 h2 => ?_
  obtain ⟨it, fp, tn, J, H2, rfl, I2, T, st2, f2, W, ⟨m0, w0⟩, turn⟩ := h2
  refine comp_run (M := fun acc cenv => compPost (model X.prog X.w) X.A X.xe none (EP X pins σ Q) acc cenv.locals) hc cs I2 ht he T st2 f2 w0 (F := fun acc H => ∀ p, H p = none → Q (.ref p) (upd H p (.lst acc))) turn fun D C cenv s' acc H' its n hce hDC hD hC I' rv hz q => ?_
  obtain ⟨m, hn, _⟩ := I'.loc
  refine ⟨m, by rw [hce]; exact hn, fun h' sb => ?_⟩
  rw [hce] at sb
  exact ⟨.ref D, _, comp_back cs I2 f2 I' hDC hD hC rv hz sb, rfl, q D (I'.pin (D, lobj its n) (List.mem_append_right _ (List.mem_singleton.mpr rfl))).2.1⟩
theorem ps_setC {i : Nat} {y : Str} {py spos : Pos} (hN : X.N.Nodup) (hiy : X.N[i]? = some y) (hy : X.env.scope.names.lookup y = some .local) (hi : PI X (.Name x px) iter wi) (ys : List Str) (ht : ∀ ex C s H, PIfs (X.blk sc x ys ex C s H) ifs tt) (he : ∀ ex C s H, PE (X.blk sc x ys ex C s H) elt te)
    (hcs : compOk X.env.scope X.N sc x ys = true) (hc : X.calm = true := by rfl) (hs : ∀ x, foldedSetIterable iter X.env x = pure x := by intro _; rfl)
    (hsw : swapsWith (.ListComp elt [⟨.Name x px, iter, ifs, 0⟩] sc pos) (some (.Name y py)) spos.line X.env = pure true := by rfl) :
    PS X (.Assign [.Name y py] (.ListComp elt [⟨.Name x px, iter, ifs, 0⟩] sc pos) spos) (fun D σ H => tComp wi tt te σ H fun v H1 => D.nx (σ.set i (some v)) H1) := by
  have cs := CompSc.of hcs
  intro pins s σ H D I h
  rw [exec_Assign_Name_used _ _ _ _ hsw]
  refine wpAny_bind (wpAny_standAt (wpAny_bind ?_))
  show wpAny _ X.A (do let _ ← comprehension (.ListComp elt [⟨.Name x px, iter, ifs, 0⟩] sc pos) sc X.env _ (newList []) false (eval iter X.env) (some (assign (.Name y py) X.env))) _ _ s
  refine wpAny_bind (wpAny_mono (wpAny_comprehension_free (use := some (assign (.Name y py) X.env)) (cl := clOf sc X.env) (Q := fun _ s' => SP X pins D .next s') rfl hs (clos_eq fun p hp hk => cs.cell I (by rw [← hk]; exact hp)) cs.kind cs.locs ?_) (fun _ s' hq => wpAny_pure (wpAny_pure hq)) fun _ _ e => e)
  refine thn (hi pins s σ H _ I h) fun v s1 h1 => thn h1 fun itv s2 h2 => ?_
  obtain ⟨it, fp, tn, J, H2, rfl, I2, T, st2, f2, W, ⟨m0, w0⟩, turn⟩ := h2
  refine comp_run (M := fun acc cenv => compPost (model X.prog X.w) X.A X.xe (some (assign (.Name y py) X.env)) (fun _ s' => SP X pins D .next s') acc cenv.locals) hc cs I2 ht he T st2 f2 w0
    (F := fun acc H => ∀ p, H p = none → D.nx (σ.set i (some (.ref p))) (upd H p (.lst acc))) turn fun Da C cenv s' acc H' its n hce hDC hD hC I' rv hz q => ?_
  obtain ⟨m, hn, _⟩ := I'.loc
  have Io := comp_back cs I2 f2 I' hDC hD hC rv hz (SameBut.rfl' C s'.heap)
  have hCL : C ≠ X.env.locals := fun e => absurd (Nat.lt_of_lt_of_le I2.lt hC) (by rw [e]; exact Nat.lt_irrefl _)
  have hCc : ∀ z c, X.env.cells.lookup z = some c → c ≠ C := fun z c e e' => by
    obtain ⟨v, o, ho, _⟩ := I2.cell z c e
    exact absurd (Nat.lt_of_lt_of_le (Heap.lt_size ho) hC) (by rw [e']; exact Nat.lt_irrefl _)
  refine wpAny_assign_Name (store_ok2 (v := .ref Da) Io hN hiy (.inl hy) rfl (fun s'' I'' ⟨a, sb, ha⟩ => ?_) (.inr hy))
  have haC : C ≠ a := by
    rcases ha with e | e
    · rw [e]
      exact hCL
    · exact (hCc y a e).symm
  refine ⟨m, by rw [hce]; exact hn.sameBut sb haC, fun h' sb' => ?_⟩
  rw [hce] at sb'
  have hfree : (upd H' Da (.lst acc)) C = none := by
    rw [upd_ne hDC.symm]
    exact I'.free
  refine ⟨_, _, I''.turned (t' := s''.toks) (it := C) (fun b o hb e => (sb'.2 b hb).trans e) hfree hCL (.inr (Nat.le_trans I2.sz hC)) hCc (fun p hp e => ?_), q Da (I'.pin (Da, lobj its n) (List.mem_append_right _ (List.mem_singleton.mpr rfl))).2.1⟩
  exact absurd (Nat.lt_of_lt_of_le (Heap.lt_size (I2.pin p hp).1) hC) (by rw [e]; exact Nat.lt_irrefl _)
end
end L2
set_option Elab.async false
set_option linter.all false
set_option maxRecDepth 100000
set_option maxHeartbeats 4000000
namespace L2
open PySem PySem.Spec PyProof.Rows PySem.SeqAt
section
variable {X : Cx} {pins : List (Addr × Obj)} {σ : St} {H : Hp} {s : Shared} {a b : Addr} {xs ys : List V} {A : Around}
theorem rcAt_seq (I : Inv X pins σ H s) (ha : SqL X.K H a xs) (hb : SqL X.K H b ys) (hu : A.units < cLine) (q : Nat → Bool)
    (hq : ∀ (j : Nat) x y u v, xs[j]? = some x → ys[j]? = some y → RelV x u → RelV y v → EqAt A.in1 s u v (q j)) : RcAt A s (.ref a) (.ref b) (decide (xs.length = ys.length) && (List.range xs.length).all q) := by
  obtain ⟨its, r1, p1, z1⟩ := I.list ha
  obtain ⟨its2, r2, p2, z2⟩ := I.list hb
  have l1 := r1.length
  have l2 := r2.length
  by_cases hl : xs.length = ys.length
  · rw [decide_eq_true hl, Bool.true_and]
    have := RcAt.lists (A := A) (s := s) (e := q) p1.isList p2.isList (by rw [List.size_toArray, List.size_toArray]; omega) hu fun j h1 h2 => ?_
    · rw [List.size_toArray, ← l1] at this
      exact this
    · rw [List.size_toArray] at h1 h2
      obtain ⟨x, hx⟩ : ∃ x, xs[j]? = some x := ⟨xs[j], List.getElem?_eq_getElem (by omega)⟩
      obtain ⟨y, hy⟩ : ∃ y, ys[j]? = some y := ⟨ys[j], List.getElem?_eq_getElem (by omega)⟩
      obtain ⟨u, e1, ru⟩ := r1.get hx
      obtain ⟨v, e2, rv⟩ := r2.get hy
      have f1 : its.toArray[j] = u := by
        have := (List.getElem?_eq_some_iff.mp e1).2
        simpa using this
      have f2 : its2.toArray[j] = v := by
        have := (List.getElem?_eq_some_iff.mp e2).2
        simpa using this
      rw [f1, f2]
      exact hq j x y u v hx hy ru rv
  · rw [decide_eq_false hl, Bool.false_and]
    exact RcAt.lists_lengths p1.isList p2.isList (by rw [List.size_toArray, List.size_toArray]; simp; omega) hu
theorem rcNeAt_seq (I : Inv X pins σ H s) (ha : SqL X.K H a xs) (hb : SqL X.K H b ys) (hu : A.units < cLine) (q : Nat → Bool)
    (hq : ∀ (j : Nat) x y u v, xs[j]? = some x → ys[j]? = some y → RelV x u → RelV y v → EqAt A.in1 s u v (q j)) : RcNeAt A s (.ref a) (.ref b) (!(decide (xs.length = ys.length) && (List.range xs.length).all q)) := by
  obtain ⟨its, r1, p1, z1⟩ := I.list ha
  obtain ⟨its2, r2, p2, z2⟩ := I.list hb
  have l1 := r1.length
  have l2 := r2.length
  by_cases hl : xs.length = ys.length
  · rw [decide_eq_true hl, Bool.true_and]
    have := RcNeAt.lists (A := A) (s := s) (e := q) p1.isList p2.isList (by rw [List.size_toArray, List.size_toArray]; omega) hu fun j h1 h2 => ?_
    · rw [List.size_toArray, ← l1] at this
      exact this
    · rw [List.size_toArray] at h1 h2
      obtain ⟨x, hx⟩ : ∃ x, xs[j]? = some x := ⟨xs[j], List.getElem?_eq_getElem (by omega)⟩
      obtain ⟨y, hy⟩ : ∃ y, ys[j]? = some y := ⟨ys[j], List.getElem?_eq_getElem (by omega)⟩
      obtain ⟨u, e1, ru⟩ := r1.get hx
      obtain ⟨v, e2, rv⟩ := r2.get hy
      have f1 : its.toArray[j] = u := by
        have := (List.getElem?_eq_some_iff.mp e1).2
        simpa using this
      have f2 : its2.toArray[j] = v := by
        have := (List.getElem?_eq_some_iff.mp e2).2
        simpa using this
      rw [f1, f2]
      exact hq j x y u v hx hy ru rv
  · rw [decide_eq_false hl, Bool.false_and]
    exact RcNeAt.lists_lengths p1.isList p2.isList (by rw [List.size_toArray, List.size_toArray]; simp; omega) hu
theorem range_all (bs : List Bool) : (List.range bs.length).all (fun i => bs.getD i false) = bs.all id := by
  rw [Bool.eq_iff_iff, List.all_eq_true, List.all_eq_true]
  constructor
  · intro h b h1
    obtain ⟨i, hi, e⟩ := List.mem_iff_getElem.mp h1
    have := h i (List.mem_range.mpr hi)
    rw [List.getD_eq_getElem?_getD, List.getElem?_eq_getElem hi, e] at this
    exact this
  · intro h i h1
    have hi := List.mem_range.mp h1
    rw [List.getD_eq_getElem?_getD, List.getElem?_eq_getElem hi]
    exact h bs[i] (List.getElem_mem hi)
theorem mt_bits : MtR X "int.bit_length" (fun x vs H Q => ∃ i, x = .int i ∧ vs = [] ∧ Q (.int (Builtin.Int.intBits i : Nat)) H) := by
  intro pins s σ H x vs v us Q I rx rv h
  obtain ⟨i, rfl, rfl, q⟩ := h
  obtain ⟨t, rfl⟩ := rx
  cases rv
  exact call_gives F.slot_int_bit_length (typeIs_int s i t) F.entry_int_bit_length (F.args_int_bit_length_1 _) (AutoIntG2.int_bit_length_int_0 i t) ⟨.int _, H, I.tok _, ⟨_, rfl⟩, q⟩
theorem ins_go {prog : Program} {w : World} {A : Around} {E : Value → Shared → Prop} {s : Shared} {Q : Value → Shared → Prop} (l : Addr) (items : Array Value) (n : Nat) (x : Int) (u : Tok) (y : Value) (hc0 : ¬(!Builtin.List.listFitsIndex x) = true) (hsz : items.size ≤ sizeLine)
   (f : Array Value → Array Value) (hf : f = fun xs => (xs.extract 0 (if x < 0 then (x + ((xs.size : Nat) : Int)).toNat else min x.toNat xs.size)).push y ++ xs.extract (if x < 0 then (x + ((xs.size : Nat) : Int)).toNat else min x.toNat xs.size))
   (e : s.heap.get? l = some { cls := .type "list", data := .seq items n }) (h : Q .none { s with heap := s.heap.update l (Obj.mapSeq f), toks := s.toks }) : wpAny (model prog w) A (call (.builtin "list.insert") [.ref l, .int x u, y]) Q E s := by
  subst hf
  exact call_meets F.slot_list_insert ⟨_, e, rfl⟩ F.entry_list_insert (F.args_list_insert_3 _ _ _) (AutoListH.list_insert_list_int_val_1 l items n x u y hc0 hsz) ⟨e, h⟩
theorem mt_insert : MtM X "list.insert" (fun x vs H Q => ∃ (l : Addr) (xs : List V) (k : Nat) (y : V), x = .ref l ∧ vs = [.int k, y] ∧ H l = some (.lst xs) ∧ k ≤ xs.length ∧ xs.length < sizeLine ∧ Q .non (upd H l (.lst (xs.take k ++ y :: xs.drop k)))) := by
  intro pins s σ H x vs v us Q I rx rv h
  obtain ⟨l, xs, k, y, rfl, rfl, hH, hk, hz, q⟩ := h
  cases rx
  obtain ⟨u1, u2, rfl, r1, r2⟩ := rv.two
  obtain ⟨t, rfl⟩ := r1
  obtain ⟨z, its, n, r, hl, e⟩ := I.lstM hH
  have h63 : (sizeLine : Nat) < 2 ^ 63 := line63
  have hfit : ¬ (!Builtin.List.listFitsIndex (k : Int)) = true := by
    have : Builtin.List.listFitsIndex (k : Int) = true := by
      unfold Builtin.List.listFitsIndex
      simp only [Bool.and_eq_true, decide_eq_true_eq]
      omega
    rw [this]
    decide
  refine ins_go l its.toArray n (k : Int) t u2 hfit (by rw [List.size_toArray]; omega) _ rfl e ⟨.non, _, I.lset (its' := its.take k ++ u2 :: its.drop k) hH e ?_ (Vals.append (r.take k) (.cons r2 (r.drop k))) ?_, rfl, q⟩
  · rw [if_neg (by omega), List.size_toArray, show min (Int.toNat (k : Int)) its.length = k by omega]
    apply Array.ext'
    simp
    exact List.take_of_length_le (by rw [List.length_drop]; exact Nat.le_refl _)
  · rw [List.length_append, List.length_cons, List.length_take, List.length_drop]
    omega
end
end L2
set_option Elab.async false
set_option linter.all false
set_option maxRecDepth 100000
set_option maxHeartbeats 4000000
set_option linter.all false
set_option maxHeartbeats 4000000
set_option maxRecDepth 100000
namespace Mt
def hands (g : Nat) : List Nat := (List.range 6).filter fun h => g.testBit h
end Mt
set_option Elab.async false
set_option linter.all false
set_option maxRecDepth 100000
namespace L2.D
open PySem
inductive PV where
  | non | bl (b : Bool) | int (i : Int) | str (x : Str) | lst (l : List PV) | tup (l : List PV) | ins (c : Nat) (l : List PV)
  deriving Inhabited
def flat : PV → Bool
  | .non => true
  | .bl _ => true
  | .int _ => true
  | .str _ => true
  | _ => false
def eqF : PV → PV → Bool
  | .non, .non => true
  | .bl a, .bl b => a == b
  | .bl a, .int b => (if a then 1 else 0) == b
  | .int a, .bl b => a == (if b then 1 else 0)
  | .int a, .int b => a == b
  | .str a, .str b => a == b
  | _, _ => false
def eqLs (f : PV → PV → Option Bool) : List PV → List PV → Option (List Bool)
  | a :: l, b :: m => (f a b).bind fun e => (eqLs f l m).map (e :: ·)
  | _, _ => some []
def eqL (f : PV → PV → Option Bool) (l m : List PV) : Option Bool := if l.length = m.length then (eqLs f l m).map fun es => es.all id else some false
def eqI : Nat → PV → PV → Option Bool
  | n + 1, .lst l, .lst m => eqL (eqI n) l m
  | n + 1, .tup l, .tup m => if l.length = m.length then eqL (eqI n) l m else none
  | _, p, q => if flat p && flat q then some (eqF p q) else none
inductive Cn where
  | l (xs : List PV) | d (kvs : List (Int × PV))
  deriving Inhabited
inductive Slot where
  | un | sh (p : PV) | own (c : Cn) | bw (l : List PV)
  deriving Inhabited
abbrev Slot.ow (l : List PV) : Slot := .own (.l l)
abbrev Sto := List Slot
abbrev Den := Sto → Option PV
def Slot.val : Slot → Option PV
  | .un => none
  | .sh p => some p
  | .own (.l l) => some (.lst l)
  | .own (.d _) => none
  | .bw l => some (.lst l)
def Slot.valS : Slot → Option PV
  | .sh p => some p
  | _ => none
inductive Fl where
  | nx (ρ : Sto) | rt (p : PV) | bk (ρ : Sto) | ct (ρ : Sto)
abbrev DenS := Sto → Option Fl
abbrev DenT := Sto → Option Bool
abbrev DenL := Sto → Option (List PV)
def dC (p : PV) : Den := fun _ => some p
def dV (i : Nat) : Den := fun ρ => (ρ[i]?).bind Slot.val
def dVS (i : Nat) : Den := fun ρ => (ρ[i]?).bind Slot.valS
def dUn (g : PV → Option PV) (a : Den) : Den := fun ρ => (a ρ).bind g
def dBin (g : PV → PV → Option PV) (a b : Den) : Den := fun ρ => (a ρ).bind fun x => (b ρ).bind fun y => g x y
def dNil : DenL := fun _ => some []
def dCons (a : Den) (as : DenL) : DenL := fun ρ => (a ρ).bind fun x => (as ρ).bind fun xs => some (x :: xs)
def dCall (F : List PV → Option PV) (as : DenL) : Den := fun ρ => (as ρ).bind F
def dCallF (F : List PV → Option PV) (as : DenL) : Den := fun ρ => (as ρ).bind fun xs => (F xs).bind fun p => if flat p then some p else none
def dLst (as : DenL) : Den := fun ρ => (as ρ).bind fun xs => if xs.length ≤ sizeLine then some (.lst xs) else none
def dTup (as : DenL) : Den := fun ρ => (as ρ).bind fun xs => if xs.length ≤ sizeLine then some (.tup xs) else none
def toB : PV → Option Bool
  | .bl b => some b
  | _ => none
def tV (a : Den) : DenT := fun ρ => (a ρ).bind toB
def tOr (a b : DenT) : DenT := fun ρ => (a ρ).bind fun c => if c then some true else b ρ
def tNot (a : DenT) : DenT := fun ρ => (a ρ).map (!·)
def gAdd : PV → PV → Option PV
  | .int i, .int j => some (.int (i + j))
  | .str x, .str y => if x.length + y.length ≤ sizeLine then some (.str (x ++ y)) else none
  | .lst l, .lst m => if l.length + m.length ≤ sizeLine then some (.lst (l ++ m)) else none
  | _, _ => none
def gSub : PV → PV → Option PV
  | .int i, .int j => some (.int (i - j))
  | _, _ => none
def mulOk (i j : Int) : Bool := (decide (-(2 ^ 64) < i) && decide (i < 2 ^ 64)) || (decide (-(2 ^ 64) < j) && decide (j < 2 ^ 64))
def gMul : PV → PV → Option PV
  | .int i, .int j => if mulOk i j then some (.int (i * j)) else none
  | _, _ => none
def gDiv : PV → PV → Option PV
  | .int i, .int j => if decide (0 < j) && decide (j < 1073741824) then some (.int (i / j)) else none
  | _, _ => none
def gMod : PV → PV → Option PV
  | .int i, .int j => if decide (0 < j) then some (.int (i % j)) else none
  | _, _ => none
def powOk (i j : Int) : Bool := decide (0 ≤ j) && decide (j ≤ 1000000) && decide (i.natAbs < 2 ^ 64)
def gPow : PV → PV → Option PV
  | .int i, .int j => if powOk i j then some (.int (i ^ j.toNat)) else none
  | _, _ => none
def gShl : PV → PV → Option PV
  | .int i, .int j => if powOk i j then some (.int (i * 2 ^ j.toNat)) else none
  | _, _ => none
def gShr : PV → PV → Option PV
  | .int i, .int j => if decide (0 ≤ j) then some (.int (i / 2 ^ j.toNat)) else none
  | _, _ => none
def gAnd : PV → PV → Option PV
  | .int i, .int j => some (.int (Builtin.bitAnd i j))
  | _, _ => none
def gOr : PV → PV → Option PV
  | .int i, .int j => some (.int (Builtin.bitOr i j))
  | _, _ => none
def gNeg : PV → Option PV
  | .int i => some (.int (-i))
  | _ => none
def eqT : PV → PV → Option Bool
  | .non, .non => some true
  | .non, .int _ => some false
  | .non, .bl _ => some false
  | .non, .str _ => some false
  | .int _, .non => some false
  | .bl _, .non => some false
  | .str _, .non => some false
  | .int a, .int b => some (decide (a = b))
  | .bl a, .bl b => some (decide (a = b))
  | .str a, .str b => some (decide (a = b))
  | .int _, .str _ => some false
  | .str _, .int _ => some false
  | .bl _, .str _ => some false
  | .str _, .bl _ => some false
  | .lst l, .lst m => eqI 20 (.lst l) (.lst m)
  | .tup l, .tup m => eqI 20 (.tup l) (.tup m)
  | _, _ => none
def gEq (a b : PV) : Option PV := (eqT a b).map PV.bl
def gNe (a b : PV) : Option PV := (eqT a b).map fun e => PV.bl !e
def gLt : PV → PV → Option PV
  | .int i, .int j => some (.bl (decide (i < j)))
  | _, _ => none
def gGe : PV → PV → Option PV
  | .int i, .int j => some (.bl (decide (j ≤ i)))
  | _, _ => none
def gIsN : PV → Option PV
  | .non => some (.bl true)
  | _ => some (.bl false)
def inP (x : PV) (l : List PV) : Bool := l.any fun y => eqF y x
def gIn : PV → PV → Option PV
  | x, .lst l => if flat x && l.all flat then some (.bl (inP x l)) else none
  | x, .tup l => if flat x && l.all flat then some (.bl (inP x l)) else none
  | _, _ => none
def gNotIn : PV → PV → Option PV
  | x, .lst l => if flat x && l.all flat then some (.bl (!inP x l)) else none
  | x, .tup l => if flat x && l.all flat then some (.bl (!inP x l)) else none
  | _, _ => none
def ixP (n : Nat) (i : Int) : Option Nat := if 0 ≤ i then (if i < n then some i.toNat else none) else if -(n : Int) ≤ i then some (i + n).toNat else none
def itemAt {α : Type} (l : List α) (i : Int) : Option α := (ixP l.length i).bind fun j => l[j]?
def gIx : PV → PV → Option PV
  | .lst l, .int i => itemAt l i
  | .tup l, .int i => itemAt l i
  | .str x, .int i => if x.length ≤ sizeLine then (itemAt x.cps.toList i).map fun c => .str ⟨#[c]⟩ else none
  | _, _ => none
def gLen : PV → Option PV
  | .lst l => some (.int l.length)
  | .tup l => some (.int l.length)
  | .str x => if x.length ≤ sizeLine then some (.int x.length) else none
  | _ => none
def gList : PV → Option PV
  | .lst l => some (.lst l)
  | .tup l => some (.lst l)
  | _ => none
def gBits : PV → Option PV
  | .int i => some (.int (Builtin.Int.intBits i : Nat))
  | _ => none
def kindP : PV → Nat
  | .int _ => 0
  | .bl _ => 1
  | .str _ => 2
  | .lst _ => 3
  | .tup _ => 4
  | .non => 5
  | .ins _ _ => 6
def isKind (k : Nat) (p : PV) : Bool := kindP p == k || (k == 0 && kindP p == 1)
def gIs (k : Nat) (p : PV) : Option PV := if kindP p = 6 then none else some (.bl (isKind k p))
def sIxP (n d : Nat) : Option Int → Nat
  | none => d
  | some i => if i < 0 then (i + n).toNat else min i.toNat n
def cutP {α : Type} (l : List α) (lo hi : Option Int) : List α := (l.drop (sIxP l.length 0 lo)).take (sIxP l.length l.length hi - sIxP l.length 0 lo)
abbrev DenO := Sto → Option (Option Int)
def oNone : DenO := fun _ => some none
def toI : PV → Option Int
  | .int i => some i
  | _ => none
def oSome (a : Den) : DenO := fun ρ => (a ρ).bind fun p => (toI p).map some
def dSl (a : Den) (lo hi : DenO) : Den := fun ρ => (a ρ).bind fun x => (lo ρ).bind fun l => (hi ρ).bind fun h => match x with
  | .lst xs => some (.lst (cutP xs l h))
  | _ => none
def itemsL : PV → Option (List PV)
  | .lst l => some l
  | _ => none
def itemsT : PV → Option (List PV)
  | .tup l => some l
  | _ => none
def nList (a : Den) : DenL := fun ρ => (a ρ).bind itemsL
def nTup (a : Den) : DenL := fun ρ => (a ρ).bind itemsT
def rangeP (lo : Int) (n : Nat) : List PV := (List.range n).map fun k => .int (lo + (k : Nat))
def rngOk (j : Int) : Bool := decide (-(2 ^ 62) ≤ j) && decide (j < 2 ^ 62)
def nRng1 (a : Den) : DenL := fun ρ => (a ρ).bind fun p => (toI p).bind fun j => if rngOk j then some (rangeP 0 j.toNat) else none
def compL (c : DenT) (e : Den) (ρ : Sto) : List PV → Option (List PV)
  | [] => some []
  | x :: xs => (c (.sh x :: ρ)).bind fun b => if b then (e (.sh x :: ρ)).bind fun z => (compL c e ρ xs).map (z :: ·) else compL c e ρ xs
def tTrue : DenT := fun _ => some true
def dComp (it : DenL) (c : DenT) (e : Den) : Den := fun ρ => (it ρ).bind fun xs => if xs.length ≤ sizeLine then (compL c e ρ xs).map PV.lst else none
def sNext : DenS := fun ρ => some (.nx ρ)
def sSeq (a b : DenS) : DenS := fun ρ => (a ρ).bind fun f => match f with
  | .nx ρ' => b ρ'
  | f => some f
def sSet (i : Nat) (a : Den) : DenS := fun ρ => (a ρ).map fun p => .nx (ρ.set i (.sh p))
def sSetO (i : Nat) (a : Den) : DenS := fun ρ => (a ρ).bind fun p => (itemsL p).map fun l => .nx (ρ.set i (.ow l))
def sRet (a : Den) : DenS := fun ρ => (a ρ).map Fl.rt
def sIf (t : DenT) (a b : DenS) : DenS := fun ρ => (t ρ).bind fun c => if c then a ρ else b ρ
def ownL (ρ : Sto) (i : Nat) : Option (List PV) := match ρ[i]? with
  | some (.own (.l l)) => some l
  | _ => none
def sMut (i : Nat) (g : List PV → List PV → Option (List PV)) (as : DenL) : DenS := fun ρ => (as ρ).bind fun xs => (ownL ρ i).bind fun l => (g l xs).map fun l' => .nx (ρ.set i (.ow l'))
def mAppend (l xs : List PV) : Option (List PV) := match xs with
  | [x] => if l.length < sizeLine then some (l ++ [x]) else none
  | _ => none
def mClear (l xs : List PV) : Option (List PV) := match xs with
  | [] => some []
  | _ => none
def mInsert (l xs : List PV) : Option (List PV) := match xs with
  | [.int k, x] => if decide (0 ≤ k) && decide (k.toNat ≤ l.length) && decide (l.length < sizeLine) then some (l.take k.toNat ++ x :: l.drop k.toNat) else none
  | _ => none
abbrev Tgt := PV → Sto → Option Sto
def gtName (i : Nat) : Tgt := fun p ρ => some (ρ.set i (.sh p))
def forL (g : Tgt) (body : DenS) : List PV → DenS
  | [] => fun ρ => some (.nx ρ)
  | x :: xs => fun ρ => (g x ρ).bind fun ρ1 => (body ρ1).bind fun f => match f with
    | .nx ρ' => forL g body xs ρ'
    | .ct ρ' => forL g body xs ρ'
    | .bk ρ' => some (.nx ρ')
    | .rt p => some (.rt p)
def sFor (it : DenL) (g : Tgt) (body : DenS) : DenS := fun ρ => (it ρ).bind fun xs => forL g body xs ρ
def whileN (t : DenT) (body : DenS) : Nat → DenS
  | 0 => fun _ => none
  | n + 1 => fun ρ => (t ρ).bind fun c => if c then (body ρ).bind fun f => match f with
      | .nx ρ' => whileN t body n ρ'
      | .ct ρ' => whileN t body n ρ'
      | .bk ρ' => some (.nx ρ')
      | .rt p => some (.rt p)
    else some (.nx ρ)
def dAndV (a b : Den) : Den := fun ρ => (a ρ).bind fun x => (toB x).bind fun c => if c then b ρ else some (.bl false)
def dNotV (a : Den) : Den := fun ρ => (a ρ).bind fun x => (toB x).map fun c => .bl !c
def sRetV (i : Nat) : DenS := fun ρ => (ownL ρ i).map fun l => .rt (.lst l)
def gNe' (a b : PV) : Option PV := match a with
  | .tup _ => none
  | _ => gNe a b
def intsP : List PV → Option (List Int)
  | [] => some []
  | .int i :: l => (intsP l).map (i :: ·)
  | _ :: _ => none
def gTuple : PV → Option PV
  | .lst l => some (.tup l)
  | .tup l => some (.tup l)
  | _ => none
def startP (n : Nat) (ps : List PV) : Sto := ps.map Slot.sh ++ List.replicate (n - ps.length) .un
def endP (fr : Bool) : Fl → Option PV
  | .rt p => some p
  | .nx _ => if fr then none else some .non
  | _ => none
def fn (fr : Bool) (n k : Nat) (body : DenS) (ps : List PV) : Option PV := if ps.length = k then (body (startP n ps)).bind (endP fr) else none
end L2.D
set_option Elab.async false
set_option linter.all false
set_option maxRecDepth 100000
set_option Elab.async false
set_option linter.all false
set_option Elab.async false
set_option linter.all false
set_option maxRecDepth 100000
namespace L2.D
open PySem
def cutS (x : Str) (lo hi : Option Int) (st : Int) : Str := if (st == 1 && (Builtin.Str.strSliceIndices lo hi st x.length).length == x.length) = true then x else ⟨((Builtin.Str.strSliceIndices lo hi st x.length).filterMap (x.cps[·]?)).toArray⟩
def dSlA (a : Den) (lo hi : DenO) : Den := fun ρ => (a ρ).bind fun x => (lo ρ).bind fun l => (hi ρ).bind fun h => match x with
  | .lst xs => some (.lst (cutP xs l h))
  | .str y => if y.length ≤ sizeLine then some (.str (cutS y l h 1)) else none
  | _ => none
def gRev : PV → Option PV
  | .str y => if y.length ≤ sizeLine then some (.str (cutS y none none (-1))) else none
  | _ => none
def gFind : PV → PV → Option PV
  | .str x, .str y => some (.int (Txt.find x y))
  | _, _ => none
def strsP : List PV → Option (List Str)
  | [] => some []
  | .str x :: l => (strsP l).map (x :: ·)
  | _ :: _ => none
end L2.D
set_option Elab.async false
set_option linter.all false
set_option maxRecDepth 100000
set_option Elab.async false
set_option linter.all false
set_option maxRecDepth 100000
namespace L2.D
open PySem
def idxS (x : Str) : List Str → Nat
  | [] => 0
  | y :: l => if y = x then 0 else 1 + idxS x l
def gIndex : PV → PV → Option PV
  | .tup l, .str x => (strsP l).bind fun ts => if decide (x ∈ ts) then some (.int (idxS x ts : Nat)) else none
  | _, _ => none
def gRevL : PV → Option PV
  | .lst l => some (.lst l.reverse)
  | _ => none
end L2.D
set_option Elab.async false
set_option linter.all false
set_option maxRecDepth 100000
namespace L2.D
open PySem
def xMk (k : Nat) : PV := .ins (1000 + k) []
def exNo : PV → Option Nat
  | .ins c _ => if 1000 ≤ c then some (c - 1000) else none
  | _ => none
def sRaise (c : Sto → Bool) (k : Nat) : DenS := fun ρ => if c ρ = true then some (.rt (xMk k)) else none
def isLp : PV → Bool
  | .lst _ => true
  | _ => false
def sRetX (a : Den) : DenS := fun ρ => (a ρ).bind fun p => if ((exNo p).isSome || isLp p) = true then none else some (.rt p)
def sRetXO (a : Den) : DenS := fun ρ => (a ρ).bind fun p => if isLp p = true then some (.rt p) else none
def okR (a : Den) : Sto → Bool := fun ρ => match a ρ with
  | some (.str x) => x.cps.all (· < 128) && decide (x.length ≤ 5000)
  | _ => false
def okI (a : Den) : Sto → Bool := fun ρ => match a ρ with
  | some (.int i) => decide (i.natAbs < 10 ^ 100)
  | _ => false
def toldP (ns : List Str) (p : PV) : Option PV := match exNo p with
  | some k => (ns[k]?).map fun x => .lst [.str x]
  | none => some p
def toldT (ns : List Str) (p : PV) : Option PV := match exNo p with
  | some k => (ns[k]?).map fun x => .tup [.str x]
  | none => some p
def sSetA (i : Nat) (a : Den) : DenS := fun ρ => (a ρ).map fun p => match p with
  | .lst l => .nx (ρ.set i (.ow l))
  | p => .nx (ρ.set i (.sh p))
def dChainLL (fa fb fc : Den) : Den := fun ρ => (fa ρ).bind fun x => (fb ρ).bind fun y => (toI x).bind fun i => (toI y).bind fun j => if i ≤ j then (fc ρ).bind fun z => (toI z).map fun k => .bl (decide (j < k)) else some (.bl false)
def gUp : PV → Option PV
  | .str x => if decide ((Txt.upper x).length ≤ 1000) then some (.str (Txt.upper x)) else none
  | _ => none
theorem exNo_mk (k : Nat) : exNo (xMk k) = some k := by
  show (if 1000 ≤ 1000 + k then some (1000 + k - 1000) else none) = some k
  rw [if_pos (by omega)]
  simp
end L2.D
set_option Elab.async false
set_option linter.all false
set_option maxRecDepth 100000
set_option Elab.async false
set_option linter.all false
set_option maxRecDepth 100000
set_option maxHeartbeats 1000000
namespace L2.D
open PySem PySem.Spec PyProof.Rows
open Classical
structure Kl where
  adr : Nat → Addr
  fld : Nat → List Str
def SL (K : PySem.W.Frag) (H : Hp) (a : Addr) (xs : List V) : Prop :=
  Rd H a (.lst xs) ∨ ∃ (its : List Value) (n : Nat), K.lookup a = some { cls := .type "list", data := .seq its.toArray n } ∧ its.length ≤ sizeLine ∧ Vals xs its
theorem SL.of {K : PySem.W.Frag} {H : Hp} {a : Addr} {xs : List V} (h : H a = some (.lst xs)) : SL K H a xs := .inl (.inl h)
theorem SL.sq {K : PySem.W.Frag} {H : Hp} {a : Addr} {xs : List V} (h : SL K H a xs) : SqL K H a xs := by
  rcases h with h | ⟨its, n, h1, h2, h3⟩
  · exact .inl h
  · exact .inr ⟨_, its.toArray, n, h1, rfl, rfl, rfl, by simpa using h2, by simpa using h3⟩
theorem _root_.L2.Same.sl {K : PySem.W.Frag} {H H' : Hp} {a : Addr} {xs : List V} (e : Same H H') (h : SL K H a xs) : SL K H' a xs := by
  rcases h with (h | ⟨o, h⟩) | h
  · exact .inl (.inl (e _ _ h))
  · exact .inl (.inr ⟨o, e _ _ h⟩)
  · exact .inr h
theorem _root_.L2.Inv.sl {X : Cx} {pins : List (Addr × Obj)} {σ : St} {H : Hp} {s : Shared} {a : Addr} {xs : List V} (I : Inv X pins σ H s) (h : SL X.K H a xs) : ∃ (its : List Value) (n : Nat), Vals xs its ∧ s.heap.get? a = some { cls := .type "list", data := .seq its.toArray n } ∧ xs.length ≤ sizeLine := by
  rcases h with h | ⟨its, n, h1, h2, h3⟩
  · obtain ⟨z, its, n, r, e⟩ := h.ok I.hok
    exact ⟨its, n, r, e, z⟩
  · exact ⟨its, n, h3, I.kIn a _ h1, by rw [h3.length]; exact h2⟩
mutual
inductive Rep (K : PySem.W.Frag) (κ : Kl) (H : Hp) : V → PV → Prop
  | non : Rep K κ H .non .non
  | bl (b : Bool) : Rep K κ H (.bl b) (.bl b)
  | int (i : Int) : Rep K κ H (.int i) (.int i)
  | str (x : Str) : Rep K κ H (.str x) (.str x)
  | lst {a : Addr} {vs : List V} {l : List PV} : SL K H a vs → Reps K κ H vs l → Rep K κ H (.ref a) (.lst l)
  | tup {a : Addr} {vs : List V} {l : List PV} : SqT K H a vs → Reps K κ H vs l → Rep K κ H (.ref a) (.tup l)
  | ins {a dx : Addr} {c : Nat} {vs : List V} {l : List PV} : H a = some (.ins (κ.adr c) dx ((κ.fld c).zip vs)) → vs.length = (κ.fld c).length → Reps K κ H vs l → Rep K κ H (.ref a) (.ins c l)
inductive Reps (K : PySem.W.Frag) (κ : Kl) (H : Hp) : List V → List PV → Prop
  | nil : Reps K κ H [] []
  | cons {v : V} {p : PV} {vs : List V} {l : List PV} : Rep K κ H v p → Reps K κ H vs l → Reps K κ H (v :: vs) (p :: l)
end
section
variable {K : PySem.W.Frag} {κ : Kl} {H H' H1 : Hp}
theorem sameT {a : Addr} {xs : List V} (e : Same H H') (h : SqT K H a xs) : SqT K H' a xs := by
  rcases h with (h | ⟨o, h⟩) | h
  · exact .inl (.inl (e _ _ h))
  · exact .inl (.inr ⟨o, e _ _ h⟩)
  · exact .inr h
mutual
theorem Rep.mono (e : Same H H') : ∀ {v : V} {p : PV}, Rep K κ H v p → Rep K κ H' v p
  | _, _, .non => .non
  | _, _, .bl b => .bl b
  | _, _, .int i => .int i
  | _, _, .str x => .str x
  | _, _, .lst h r => .lst (e.sl h) (Reps.mono e r)
  | _, _, .tup h r => .tup (sameT e h) (Reps.mono e r)
  | _, _, .ins h z r => .ins (e _ _ h) z (Reps.mono e r)
theorem Reps.mono (e : Same H H') : ∀ {vs : List V} {l : List PV}, Reps K κ H vs l → Reps K κ H' vs l
  | _, _, .nil => .nil
  | _, _, .cons r t => .cons (Rep.mono e r) (Reps.mono e t)
end
theorem Reps.length : ∀ {vs : List V} {l : List PV}, Reps K κ H vs l → vs.length = l.length
  | _, _, .nil => rfl
  | _, _, .cons _ t => by rw [List.length_cons, List.length_cons, t.length]
theorem Reps.append : ∀ {vs ws : List V} {l m : List PV}, Reps K κ H vs l → Reps K κ H ws m → Reps K κ H (vs ++ ws) (l ++ m)
  | _, _, _, _, .nil, s => s
  | _, _, _, _, .cons r t, s => .cons r (t.append s)
theorem Reps.get : ∀ {vs : List V} {l : List PV} {i : Nat} {p : PV}, Reps K κ H vs l → l[i]? = some p → ∃ v, vs[i]? = some v ∧ Rep K κ H v p
  | _, _, _, _, .nil, e => by simp at e
  | _, _, 0, _, .cons r _, e => by simp at e; subst e; exact ⟨_, rfl, r⟩
  | _, _, i + 1, p, .cons _ t, e => by
    obtain ⟨v, h1, h2⟩ := Reps.get (i := i) (p := p) t (by simpa using e)
    exact ⟨v, by simpa using h1, h2⟩
theorem Reps.getV : ∀ {vs : List V} {l : List PV} {i : Nat} {v : V}, Reps K κ H vs l → vs[i]? = some v → ∃ p, l[i]? = some p ∧ Rep K κ H v p
  | _, _, _, _, .nil, e => by simp at e
  | _, _, 0, _, .cons r _, e => by simp at e; subst e; exact ⟨_, rfl, r⟩
  | _, _, i + 1, v, .cons _ t, e => by
    obtain ⟨p, h1, h2⟩ := Reps.getV (i := i) (v := v) t (by simpa using e)
    exact ⟨p, by simpa using h1, h2⟩
theorem Reps.take : ∀ {vs : List V} {l : List PV} (n : Nat), Reps K κ H vs l → Reps K κ H (vs.take n) (l.take n)
  | _, _, 0, _ => .nil
  | _, _, _ + 1, .nil => .nil
  | _, _, n + 1, .cons r t => .cons r (t.take n)
theorem Reps.drop : ∀ {vs : List V} {l : List PV} (n : Nat), Reps K κ H vs l → Reps K κ H (vs.drop n) (l.drop n)
  | _, _, 0, r => r
  | _, _, _ + 1, .nil => .nil
  | _, _, n + 1, .cons _ t => t.drop n
theorem Rep.flat {v : V} {p : PV} (f : flat p = true) (r : Rep K κ H v p) : Rep K κ H' v p := by
  cases r with
  | non => exact .non
  | bl b => exact .bl b
  | int i => exact .int i
  | str x => exact .str x
  | lst _ _ => simp [D.flat] at f
  | tup _ _ => simp [D.flat] at f
  | ins _ _ _ => simp [D.flat] at f
end
noncomputable def hide (A : Addr → Prop) (H : Hp) : Hp := fun b => if A b then none else H b
theorem hide_of {A : Addr → Prop} {H : Hp} {b : Addr} (h : ¬ A b) : hide A H b = H b := if_neg h
theorem hide_some {A : Addr → Prop} {H : Hp} {b : Addr} {o : HO} (h : hide A H b = some o) : ¬ A b ∧ H b = some o := by
  unfold hide at h
  by_cases e : A b
  · rw [if_pos e] at h
    cases h
  · rw [if_neg e] at h
    exact ⟨e, h⟩
theorem hide_same {A : Addr → Prop} {H H' : Hp} (h : Same H H') : Same (hide A H) (hide A H') := fun b o e => by
  obtain ⟨h1, h2⟩ := hide_some e
  rw [hide_of h1]
  exact h b o h2
theorem hide_sub {A B : Addr → Prop} {H H' : Hp} (h : Same H H') (s : ∀ b, B b → H b ≠ none → A b) : Same (hide A H) (hide B H') := fun b o e => by
  obtain ⟨h1, h2⟩ := hide_some e
  rw [hide_of fun z => h1 (s b z (by rw [h2]; simp))]
  exact h b o h2
theorem hide_full {A : Addr → Prop} {H : Hp} : Same (hide A H) H := fun b o e => (hide_some e).2
theorem hide_upd {A : Addr → Prop} {H : Hp} {a : Addr} {o : HO} (h : A a) : hide A (upd H a o) = hide A H := by
  funext b
  unfold hide
  by_cases e : A b
  · rw [if_pos e, if_pos e]
  · rw [if_neg e, if_neg e]
    exact upd_ne fun z => e (z ▸ h)
theorem same_upd {H : Hp} {a : Addr} {o : HO} (h : H a = none) : Same H (upd H a o) := fun b u q => by rw [upd_ne (ne_of_none q h)]; exact q
def hoOf : Cn → List V → HO
  | .l _, vs => .lst vs
  | .d d, vs => .dK (List.zipWith (fun (p : Int × PV) (v : V) => ((Sum.inl p.1 : Key), v)) d vs)
def itOf : Cn → List PV
  | .l l => l
  | .d d => d.map (·.2)
def ownS (own : Nat → Addr) (ρ : Sto) : Addr → Prop := fun b => ∃ i l, ρ[i]? = some (.own l) ∧ own i = b
def hset (A : Addr → Prop) (own : Nat → Addr) (ρ : Sto) : Addr → Prop := fun b => A b ∨ ownS own ρ b
noncomputable abbrev hid (A : Addr → Prop) (own : Nat → Addr) (ρ : Sto) (H : Hp) : Hp := hide (hset A own ρ) H
structure R (K : PySem.W.Frag) (κ : Kl) (G : Hp) (A : Addr → Prop) (bo : Nat → Option (Addr × List V)) (own : Nat → Addr) (ρ : Sto) (σ : St) (H : Hp) : Prop where
  al : ∀ b, A b → G b ≠ none
  bg : ∀ i a vs, bo i = some (a, vs) → G a = some (.lst vs)
  same : Same G H
  sh : ∀ (i : Nat) p, ρ[i]? = some (.sh p) → ∃ v, σ[i]? = some (some v) ∧ Rep K κ (hid A own ρ H) v p
  ow : ∀ (i : Nat) l, ρ[i]? = some (.own l) → σ[i]? = some (some (.ref (own i))) ∧ G (own i) = none ∧ ∃ vs, H (own i) = some (hoOf l vs) ∧ Reps K κ (hid A own ρ H) vs (itOf l)
  inj : ∀ (i j : Nat) l m, ρ[i]? = some (.own l) → ρ[j]? = some (.own m) → own i = own j → i = j
  bw : ∀ (i : Nat) l, ρ[i]? = some (.bw l) → ∃ a vs, bo i = some (a, vs) ∧ σ[i]? = some (some (.ref a)) ∧ Reps K κ (hid A own ρ H) vs l
  len : σ.length = ρ.length
section
variable {K : PySem.W.Frag} {κ : Kl} {G G' H H' H1 : Hp} {A : Addr → Prop} {bo : Nat → Option (Addr × List V)} {own own' : Nat → Addr} {ρ ρ' : Sto} {σ σ' : St}
theorem R.mono (r : R K κ G A bo own ρ σ H) (s : Same H H1) : R K κ G A bo own ρ σ H1 where
  al := r.al
  bg := r.bg
  same := r.same.trans s
  sh := fun i p e => let ⟨v, h1, h2⟩ := r.sh i p e; ⟨v, h1, h2.mono (hide_same s)⟩
  ow := fun i l e => let ⟨h1, h2, vs, h3, h4⟩ := r.ow i l e; ⟨h1, h2, vs, s _ _ h3, h4.mono (hide_same s)⟩
  inj := r.inj
  bw := fun i l e => let ⟨a, vs, h1, h2, h3⟩ := r.bw i l e; ⟨a, vs, h1, h2, h3.mono (hide_same s)⟩
  len := r.len
theorem R.new (r : R K κ G A bo own ρ σ H) {a : Addr} (h : H a = none) : ¬ hset A own ρ a := by
  rintro (z | ⟨i, l, h1, rfl⟩)
  · cases e : G a with
    | none => exact r.al a z e
    | some o =>
      rw [r.same _ _ e] at h
      cases h
  · obtain ⟨_, _, vs, h3, _⟩ := r.ow i l h1
    rw [h3] at h
    cases h
theorem R.alH (r : R K κ G A bo own ρ σ H) {b : Addr} (h : hset A own ρ b) : H b ≠ none := fun z => r.new z h
noncomputable def vis (own : Nat → Addr) (ρ : Sto) (H : Hp) : Hp := hide (ownS own ρ) H
theorem hide_vis : hide A (vis own ρ H) = hid A own ρ H := by
  funext b
  unfold vis hid hide hset
  by_cases h1 : A b <;> by_cases h2 : ownS own ρ b <;> simp [h1, h2]
theorem R.gv (r : R K κ G A bo own ρ σ H) : Same G (vis own ρ H) := fun b o e => by
  unfold vis
  rw [hide_of]
  · exact r.same _ _ e
  · rintro ⟨i, l, h1, rfl⟩
    rw [(r.ow i l h1).2.1] at e
    cases e
theorem R.big (r : R K κ G A bo own ρ σ H) : R K κ (vis own ρ H) A bo own ρ σ H where
  al := fun b h z => by
    cases e : G b with
    | none => exact r.al b h e
    | some o =>
      rw [r.gv _ _ e] at z
      cases z
  bg := fun i a vs h => r.gv _ _ (r.bg i a vs h)
  same := hide_full
  sh := r.sh
  ow := fun i l e => let ⟨h1, h2, h3⟩ := r.ow i l e; ⟨h1, by unfold vis hide; rw [if_pos ⟨i, l, e, rfl⟩], h3⟩
  inj := r.inj
  bw := r.bw
  len := r.len
theorem R.small (r : R K κ G' A bo own ρ σ H) (s : Same G G') (al : ∀ b, A b → G b ≠ none) (bg : ∀ i a vs, bo i = some (a, vs) → G a = some (.lst vs)) : R K κ G A bo own ρ σ H where
  al := al
  bg := bg
  same := s.trans r.same
  sh := r.sh
  ow := fun i l e => let ⟨h1, h2, h3⟩ := r.ow i l e; ⟨h1, s.free h2, h3⟩
  inj := r.inj
  bw := r.bw
  len := r.len
theorem R.visSame (r : R K κ G A bo own ρ σ H) : Same (hide A G) (hid A own ρ H) := fun b o e => by
  obtain ⟨h1, h2⟩ := hide_some e
  rw [hid, hide_of]
  · exact r.same _ _ h2
  · rintro (z | ⟨i, l, h3, rfl⟩)
    · exact h1 z
    · rw [(r.ow i l h3).2.1] at h2
      cases h2
theorem ownS_set {i : Nat} {p : PV} {b : Addr} (h : ownS own (ρ.set i (.sh p)) b) : ownS own ρ b := by
  obtain ⟨j, l, h1, h2⟩ := h
  rw [List.getElem?_set] at h1
  split at h1
  · split at h1 <;> cases h1
  · exact ⟨j, l, h1, h2⟩
theorem hid_set {i : Nat} {p : PV} : Same (hid A own ρ H) (hid A own (ρ.set i (.sh p)) H) := hide_sub (fun _ _ h => h) fun b h _ => by
  rcases h with h | h
  · exact .inl h
  · exact .inr (ownS_set h)
theorem R.set (r : R K κ G A bo own ρ σ H) {i : Nat} {v : V} {p : PV} (h : Rep K κ (hid A own ρ H) v p) : R K κ G A bo own (ρ.set i (.sh p)) (σ.set i (some v)) H := by
  have ne : ∀ {j : Nat} {x : Slot}, (ρ.set i (.sh p))[j]? = some x → x ≠ .sh p → i ≠ j ∧ ρ[j]? = some x := fun {j x} e nx => by
    rw [List.getElem?_set] at e
    split at e
    · split at e
      · exact absurd (Option.some.inj e).symm nx
      · cases e
    · exact ⟨by assumption, e⟩
  refine ⟨r.al, r.bg, r.same, fun j q e => ?_, fun j l e => ?_, fun j k l m e f => ?_, fun j l e => ?_, by rw [List.length_set, List.length_set]; exact r.len⟩
  · by_cases hj : i = j
    · subst hj
      rw [List.getElem?_set] at e
      rw [if_pos rfl] at e
      split at e
      · injection e with e
        injection e with e
        subst e
        exact ⟨v, by rw [List.getElem?_set, if_pos rfl, if_pos (by rw [r.len]; assumption)], h.mono hid_set⟩
      · cases e
    · rw [List.getElem?_set, if_neg hj] at e
      obtain ⟨u, h1, h2⟩ := r.sh j q e
      exact ⟨u, by rw [List.getElem?_set, if_neg hj]; exact h1, h2.mono hid_set⟩
  · obtain ⟨hj, e⟩ := ne e (by simp)
    obtain ⟨h1, h2, vs, h3, h4⟩ := r.ow j l e
    exact ⟨by rw [List.getElem?_set, if_neg hj]; exact h1, h2, vs, h3, h4.mono hid_set⟩
  · exact r.inj j k l m (ne e (by simp)).2 (ne f (by simp)).2
  · obtain ⟨hj, e⟩ := ne e (by simp)
    obtain ⟨a, vs, h1, h2, h3⟩ := r.bw j l e
    exact ⟨a, vs, h1, by rw [List.getElem?_set, if_neg hj]; exact h2, h3.mono hid_set⟩
theorem R.setO (r : R K κ G A bo own ρ σ H) {i : Nat} {a : Addr} {vs : List V} {l : Cn} (hG : G a = none) (hA : ¬ A a) (hj : ∀ (j : Nat) m, ρ[j]? = some (.own m) → j ≠ i → own j ≠ a) (s : Same (hid A own ρ H) (hide (fun b => hset A own ρ b ∨ b = a) H1)) (hk : ∀ b o, H b = some o → b ≠ a → H1 b = some o)
    (h1 : H1 a = some (hoOf l vs)) (h2 : Reps K κ (hide (fun b => hset A own ρ b ∨ b = a) H1) vs (itOf l)) : R K κ G A bo (fun j => if j = i then a else own j) (ρ.set i (.own l)) (σ.set i (some (.ref a))) H1 := by
  by_cases hi : i < ρ.length
  rotate_left
  · rw [List.set_eq_of_length_le (by omega), List.set_eq_of_length_le (by rw [r.len]; omega)]
    have oe : ∀ (j : Nat) x, ρ[j]? = some x → (if j = i then a else own j) = own j := fun j x e => if_neg fun z => by
      have := (List.getElem?_eq_some_iff.mp e).1
      omega
    have se : hset A (fun j => if j = i then a else own j) ρ = hset A own ρ := by
      funext b
      unfold hset ownS
      refine propext (or_congr Iff.rfl ⟨?_, ?_⟩)
      · rintro ⟨j, m, e, z⟩
        exact ⟨j, m, e, by rw [← oe j _ e]; exact z⟩
      · rintro ⟨j, m, e, z⟩
        exact ⟨j, m, e, by show (if j = i then a else own j) = b; rw [oe j _ e]; exact z⟩
    have sm : Same (hid A own ρ H) (hid A own ρ H1) := s.trans (hide_sub (fun _ _ h => h) fun b h _ => .inl h)
    refine ⟨r.al, r.bg, fun b o e => hk b o (r.same _ _ e) (fun z => by rw [z, hG] at e; cases e), fun j q e => ?_, fun j m e => ?_, fun j k m n e f z => ?_, fun j m e => ?_, r.len⟩
    · obtain ⟨u, z1, z2⟩ := r.sh j q e
      exact ⟨u, z1, by rw [hid, se]; exact z2.mono sm⟩
    · rw [oe j _ e]
      obtain ⟨z1, z2, ws, z3, z4⟩ := r.ow j m e
      have hne : j ≠ i := fun z => by
        have := (List.getElem?_eq_some_iff.mp e).1
        omega
      exact ⟨z1, z2, ws, hk _ _ z3 (hj j m e hne), by rw [hid, se]; exact z4.mono sm⟩
    · skip
      rw [oe j _ e, oe k _ f] at z
      exact r.inj j k m n e f z
    · obtain ⟨b, ws, z1, z2, z3⟩ := r.bw j m e
      exact ⟨b, ws, z1, z2, by rw [hid, se]; exact z3.mono sm⟩
  have hset' : ∀ b, hset A (fun j => if j = i then a else own j) (ρ.set i (.own l)) b → hset A own ρ b ∨ b = a := fun b h => by
    rcases h with h | ⟨j, m, e, z⟩
    · exact .inl (.inl h)
    · by_cases hji : j = i
      · subst hji
        try dsimp only at z
        rw [if_pos rfl] at z
        exact .inr z.symm
      · dsimp only at z
        rw [if_neg hji] at z
        rw [List.getElem?_set, if_neg (Ne.symm hji)] at e
        exact .inl (.inr ⟨j, m, e, z⟩)
  have sm : Same (hide (fun b => hset A own ρ b ∨ b = a) H1) (hid A (fun j => if j = i then a else own j) (ρ.set i (.own l)) H1) := hide_sub (fun _ _ h => h) fun b h _ => hset' b h
  have sm2 : Same (hid A own ρ H) (hid A (fun j => if j = i then a else own j) (ρ.set i (.own l)) H1) := s.trans sm
  refine ⟨r.al, r.bg, fun b o e => hk b o (r.same _ _ e) (fun z => by rw [z, hG] at e; cases e), fun j q e => ?_, fun j m e => ?_, fun j k m n e f z => ?_, fun j m e => ?_, by rw [List.length_set, List.length_set]; exact r.len⟩
  · by_cases hj' : i = j
    · subst hj'
      rw [List.getElem?_set, if_pos rfl, if_pos hi] at e
      cases e
    · rw [List.getElem?_set, if_neg hj'] at e
      obtain ⟨u, z1, z2⟩ := r.sh j q e
      exact ⟨u, by rw [List.getElem?_set, if_neg hj']; exact z1, z2.mono sm2⟩
  · by_cases hj' : i = j
    · subst hj'
      rw [List.getElem?_set, if_pos rfl, if_pos hi] at e
      injection e with e
      injection e with e
      subst e
      try dsimp only
      rw [if_pos rfl]
      exact ⟨by rw [List.getElem?_set, if_pos rfl, if_pos (by rw [r.len]; exact hi)], hG, vs, h1, h2.mono sm⟩
    · rw [List.getElem?_set, if_neg hj'] at e
      obtain ⟨z1, z2, ws, z3, z4⟩ := r.ow j m e
      try dsimp only
      rw [if_neg (Ne.symm hj')]
      exact ⟨by rw [List.getElem?_set, if_neg hj']; exact z1, z2, ws, hk _ _ z3 (hj j m e (Ne.symm hj')), z4.mono sm2⟩
  · skip
    by_cases hj' : i = j <;> by_cases hk' : i = k
    · rw [← hj', ← hk']
    · subst hj'
      rw [List.getElem?_set, if_neg hk'] at f
      rw [if_pos rfl, if_neg (Ne.symm hk')] at z
      exact absurd z.symm (hj k n f (Ne.symm hk'))
    · subst hk'
      rw [List.getElem?_set, if_neg hj'] at e
      rw [if_pos rfl, if_neg (Ne.symm hj')] at z
      exact absurd z (hj j m e (Ne.symm hj'))
    · rw [List.getElem?_set, if_neg hj'] at e
      rw [List.getElem?_set, if_neg hk'] at f
      rw [if_neg (Ne.symm hj'), if_neg (Ne.symm hk')] at z
      exact r.inj j k m n e f z
  · by_cases hj' : i = j
    · subst hj'
      rw [List.getElem?_set, if_pos rfl, if_pos hi] at e
      cases e
    · rw [List.getElem?_set, if_neg hj'] at e
      obtain ⟨b, ws, z1, z2, z3⟩ := r.bw j m e
      exact ⟨b, ws, z1, by rw [List.getElem?_set, if_neg hj']; exact z2, z3.mono sm2⟩
end
end L2.D
set_option Elab.async false
set_option linter.all false
set_option maxRecDepth 100000
set_option maxHeartbeats 1000000
namespace L2.D
open PySem PySem.Spec PyProof.Rows
open Classical
def BR (K : PySem.W.Frag) (κ : Kl) (hH H : Hp) (v : V) (p : PV) : Prop := Rep K κ hH v p ∨ ∃ a vs l, v = .ref a ∧ p = .lst l ∧ SL K H a vs ∧ Reps K κ hH vs l
def OR (K : PySem.W.Frag) (κ : Kl) (A : Addr → Prop) (H H' : Hp) (v : V) (p : PV) : Prop := ∃ a vs l, v = .ref a ∧ p = .lst l ∧ H a = none ∧ H' a = some (.lst vs) ∧ Reps K κ (hide (fun b => A b ∨ b = a) H') vs l
def EvS (K : PySem.W.Frag) (κ : Kl) (te : TE) (f : Den) : Prop :=
  ∀ {G A bo own ρ σ H p Q}, R K κ G A bo own ρ σ H → f ρ = some p → (∀ v H', Same H H' → Rep K κ (hid A own ρ H') v p → Q v H') → te σ H Q
def EvB (K : PySem.W.Frag) (κ : Kl) (te : TE) (f : Den) : Prop :=
  ∀ {G A bo own ρ σ H p Q}, R K κ G A bo own ρ σ H → f ρ = some p → (∀ v H', Same H H' → BR K κ (hid A own ρ H') H' v p → Q v H') → te σ H Q
def EvO (K : PySem.W.Frag) (κ : Kl) (te : TE) (f : Den) : Prop :=
  ∀ {G A bo own ρ σ H p Q}, R K κ G A bo own ρ σ H → f ρ = some p → (∀ v H', Same H H' → OR K κ (hset A own ρ) H H' v p → Q v H') → te σ H Q
def EvT (K : PySem.W.Frag) (κ : Kl) (tt : TT) (f : DenT) : Prop :=
  ∀ {G A bo own ρ σ H b Q}, R K κ G A bo own ρ σ H → f ρ = some b → (∀ H', Same H H' → Q b H') → tt σ H Q
def DE (X : Cx) (κ : Kl) (e : Expr) (f : Den) : Prop := ∃ te, PE X e te ∧ EvS X.K κ te f
def DB (X : Cx) (κ : Kl) (e : Expr) (f : Den) : Prop := ∃ te, PE X e te ∧ EvB X.K κ te f
def DO (X : Cx) (κ : Kl) (e : Expr) (f : Den) : Prop := ∃ te, PE X e te ∧ EvO X.K κ te f
def DT (X : Cx) (κ : Kl) (e : Expr) (f : DenT) : Prop := ∃ tt, PT X e tt ∧ EvT X.K κ tt f
def DW (X : Cx) (κ : Kl) (e : Expr) (f : DenT) : Prop := ∃ tt, PW X e tt ∧ EvT X.K κ tt f
section
variable {K : PySem.W.Frag} {κ : Kl} {G hH hH' H H' H1 : Hp} {A : Addr → Prop} {bo : Nat → Option (Addr × List V)} {own : Nat → Addr} {ρ : Sto} {σ : St} {v : V} {p : PV}
theorem BR.mono (h : BR K κ hH H v p) (s1 : Same hH hH') (s2 : Same H H') : BR K κ hH' H' v p := by
  rcases h with h | ⟨a, vs, l, h1, h2, h3, h4⟩
  · exact .inl (h.mono s1)
  · exact .inr ⟨a, vs, l, h1, h2, s2.sl h3, h4.mono s1⟩
theorem BR.mono' (h : BR K κ (hide A H) H v p) (s2 : Same H H') : BR K κ (hide A H') H' v p := h.mono (hide_same s2) s2
theorem BR.full (h : BR K κ hH H v p) (s : Same hH H) : Rep K κ H v p := by
  rcases h with h | ⟨a, vs, l, rfl, rfl, h3, h4⟩
  · exact h.mono s
  · exact .lst h3 (h4.mono s)
theorem BR.lst {l : List PV} (h : BR K κ hH H v (.lst l)) (s : Same hH H) : ∃ a vs, v = .ref a ∧ SL K H a vs ∧ Reps K κ hH vs l := by
  rcases h with h | ⟨a, vs, l', h1, h2, h3, h4⟩
  · cases h with
    | lst h1 h2 => exact ⟨_, _, rfl, s.sl h1, h2⟩
  · cases h2
    exact ⟨a, vs, h1, h3, h4⟩
theorem BR.tup {l : List PV} (h : BR K κ hH H v (.tup l)) (s : Same hH H) : ∃ a vs, v = .ref a ∧ SqT K H a vs ∧ Reps K κ hH vs l := by
  rcases h with h | ⟨a, vs, l', h1, h2, h3, h4⟩
  · cases h with
    | tup h1 h2 => exact ⟨_, _, rfl, sameT s h1, h2⟩
  · cases h2
theorem BR.int {i : Int} (h : BR K κ hH H v (.int i)) : v = .int i := by
  rcases h with h | ⟨a, vs, l', h1, h2, h3, h4⟩
  · cases h; rfl
  · cases h2
theorem BR.str {i : Str} (h : BR K κ hH H v (.str i)) : v = .str i := by
  rcases h with h | ⟨a, vs, l', h1, h2, h3, h4⟩
  · cases h; rfl
  · cases h2
theorem Rep.toB {i : Bool} (h : Rep K κ hH v (.bl i)) : v = .bl i := by cases h; rfl
theorem R.newO (r : R K κ G A bo own ρ σ H) {a : Addr} {vs : List V} {l : List PV} (h : H a = none) (q : Reps K κ (hid A own ρ H) vs l) : OR K κ (hset A own ρ) H (upd H a (.lst vs)) (.ref a) (.lst l) :=
  ⟨a, vs, l, rfl, rfl, h, upd_same, by
    rw [hide_upd (.inr rfl)]
    exact q.mono (hide_sub (fun _ _ z => z) fun b z nz => by
      rcases z with z | z
      · exact z
      · rw [z] at nz
        exact absurd h nz)⟩
theorem OR.rep (r : R K κ G A bo own ρ σ H) (h : OR K κ (hset A own ρ) H H' v p) : Rep K κ (hid A own ρ H') v p := by
  obtain ⟨a, vs, l, rfl, rfl, h1, h2, h3⟩ := h
  refine .lst (SL.of ?_) (h3.mono (hide_sub (fun _ _ z => z) fun b z _ => .inl z))
  rw [hid, hide_of (r.new h1)]
  exact h2
theorem R.newT (r : R K κ G A bo own ρ σ H) {a : Addr} {vs : List V} {l : List PV} (h : H a = none) (q : Reps K κ (hid A own ρ H) vs l) : Rep K κ (hid A own ρ (upd H a (.tup vs))) (.ref a) (.tup l) := by
  refine .tup (SqT.of ?_) (q.mono (hide_same (same_upd h)))
  rw [hid, hide_of (r.new h)]
  exact upd_same
theorem evb2 {ta tb : TE} {fa fb : Den} {α : Type} {g : PV → PV → Option α} {z : α} {Rr : V → V → Hp → Prop} (ha : EvB K κ ta fa) (hb : EvB K κ tb fb) (r : R K κ G A bo own ρ σ H)
    (e : ((fa ρ).bind fun x => (fb ρ).bind fun y => g x y) = some z) (q : ∀ x y p q H', Same H H' → R K κ G A bo own ρ σ H' → BR K κ (hid A own ρ H') H' x p → BR K κ (hid A own ρ H') H' y q → g p q = some z → Rr x y H') : ta σ H fun x H1 => tb σ H1 fun y H2 => Rr x y H2 := by
  obtain ⟨p1, e1, e⟩ := Option.bind_eq_some_iff.mp e
  obtain ⟨p2, e2, e⟩ := Option.bind_eq_some_iff.mp e
  refine ha r e1 fun x H1 s1 b1 => ?_
  refine hb (r.mono s1) e2 fun y H2 s2 b2 => ?_
  exact q x y p1 p2 H2 (s1.trans s2) (r.mono (s1.trans s2)) (b1.mono' s2) b2 e
end
theorem DE.b {X : Cx} {κ : Kl} {ex : Expr} {f : Den} (h : DE X κ ex f) : DB X κ ex f := let ⟨te, h1, h2⟩ := h; ⟨te, h1, fun r e q => h2 r e fun v H' s z => q v H' s (.inl z)⟩
theorem DO.e {X : Cx} {κ : Kl} {ex : Expr} {f : Den} (h : DO X κ ex f) : DE X κ ex f := let ⟨te, h1, h2⟩ := h; ⟨te, h1, fun r e q => h2 r e fun v H' s z => q v H' s (z.rep r)⟩
theorem DO.b {X : Cx} {κ : Kl} {ex : Expr} {f : Den} (h : DO X κ ex f) : DB X κ ex f := h.e.b
section
variable {X : Cx} {κ : Kl} {e a b c : Expr} {f fa fb fc : Den} {pos : Pos}
theorem de_int {i : Int} {j pos} : DE X κ (.Constant (.int i) j pos) (dC (.int i)) := ⟨_, pe_int, fun {_ _ _ _ _ _ H _ _} r e q => by cases e; exact q _ H (Same.refl _) (.int i)⟩
theorem de_bl {i : Bool} {j pos} : DE X κ (.Constant (.bool i) j pos) (dC (.bl i)) := ⟨_, pe_bl, fun {_ _ _ _ _ _ H _ _} r e q => by cases e; exact q _ H (Same.refl _) (.bl i)⟩
theorem de_str {i : Str} {j pos} : DE X κ (.Constant (.str i) j pos) (dC (.str i)) := ⟨_, pe_str, fun {_ _ _ _ _ _ H _ _} r e q => by cases e; exact q _ H (Same.refl _) (.str i)⟩
theorem db_var (i : Nat) {x : Str} {pos : Pos} (hN : X.N[i]? = some x := by rfl) (hv : Vis X.env.scope x := by first | exact Or.inl rfl | exact Or.inr (Or.inl rfl) | exact Or.inr (Or.inr rfl)) (hd : (x == ("__debug__" : Str)) = false := by decide)
    (hcd : (x == ("__classdict__" : Str)) = false := by decide) : DB X κ (.Name x pos) (dV i) := ⟨_, pe_var hN hv hd hcd, fun {G A bo own ρ σ H p Q} r e q => by
  unfold dV at e
  obtain ⟨s, e1, e2⟩ := Option.bind_eq_some_iff.mp e
  cases s with
  | un => cases e2
  | sh p' =>
    cases e2
    obtain ⟨v, h1, h2⟩ := r.sh i _ e1
    exact ⟨v, h1, q v H (Same.refl _) (.inl h2)⟩
  | own c =>
    cases c with
    | d _ => cases e2
    | l l =>
    cases e2
    obtain ⟨h1, _, vs, h3, h4⟩ := r.ow i _ e1
    exact ⟨_, h1, q _ H (Same.refl _) (.inr ⟨_, vs, l, rfl, rfl, SL.of h3, h4⟩)⟩
  | bw l =>
    cases e2
    obtain ⟨a, vs, h0, h1, h4⟩ := r.bw i _ e1
    exact ⟨_, h1, q _ H (Same.refl _) (.inr ⟨_, vs, l, rfl, rfl, SL.of (r.same _ _ (r.bg _ _ _ h0)), h4⟩)⟩⟩
theorem de_var (i : Nat) {x : Str} {pos : Pos} (hN : X.N[i]? = some x := by rfl) (hv : Vis X.env.scope x := by first | exact Or.inl rfl | exact Or.inr (Or.inl rfl) | exact Or.inr (Or.inr rfl)) (hd : (x == ("__debug__" : Str)) = false := by decide)
    (hcd : (x == ("__classdict__" : Str)) = false := by decide) : DE X κ (.Name x pos) (dVS i) := ⟨_, pe_var hN hv hd hcd, fun {G A bo own ρ σ H p Q} r e q => by
  unfold dVS at e
  obtain ⟨s, e1, e2⟩ := Option.bind_eq_some_iff.mp e
  cases s with
  | un => cases e2
  | sh p' =>
    cases e2
    obtain ⟨v, h1, h2⟩ := r.sh i _ e1
    exact ⟨v, h1, q v H (Same.refl _) h2⟩
  | own l => cases e2
  | bw l => cases e2⟩
theorem de_i2 {op : Operator} {C : Int → Int → Prop} {F : Int → Int → Int} {g : PV → PV → Option PV} (ho : OpR X (binaryOp op) (rI C fun i j => .int (F i j))) (hg : ∀ p q z, g p q = some z → ∃ i j, p = .int i ∧ q = .int j ∧ C i j ∧ z = .int (F i j))
    (ha : DB X κ a fa) (hb : DB X κ b fb) : DE X κ (.BinOp a op b pos) (dBin g fa fb) := by
  obtain ⟨ta, h1, h2⟩ := ha
  obtain ⟨tb, h3, h4⟩ := hb
  refine ⟨_, pe_op ho h1 h3, fun {G A bo own ρ σ H p Q} r e q => ?_⟩
  refine evb2 h2 h4 r e fun x y p1 p2 H' s r' b1 b2 e' => ?_
  obtain ⟨i, j, rfl, rfl, hC, rfl⟩ := hg _ _ _ e'
  exact ⟨i, j, b1.int, b2.int, hC, q _ H' s (.int _)⟩
theorem de_i20 {op : Operator} {F : Int → Int → Int} {g : PV → PV → Option PV} (ho : OpR X (binaryOp op) (rI0 fun i j => .int (F i j))) (hg : ∀ p q z, g p q = some z → ∃ i j, p = .int i ∧ q = .int j ∧ z = .int (F i j))
    (ha : DB X κ a fa) (hb : DB X κ b fb) : DE X κ (.BinOp a op b pos) (dBin g fa fb) := by
  obtain ⟨ta, h1, h2⟩ := ha
  obtain ⟨tb, h3, h4⟩ := hb
  refine ⟨_, pe_op ho h1 h3, fun {G A bo own ρ σ H p Q} r e q => ?_⟩
  refine evb2 h2 h4 r e fun x y p1 p2 H' s r' b1 b2 e' => ?_
  obtain ⟨i, j, rfl, rfl, rfl⟩ := hg _ _ _ e'
  exact ⟨i, j, b1.int, b2.int, q _ H' s (.int _)⟩
theorem de_sub (ha : DB X κ a fa) (hb : DB X κ b fb) : DE X κ (.BinOp a .Sub b pos) (dBin gSub fa fb) := de_i20 op_sub (fun p q z h => by
  (cases p <;> first | (cases h; done) | skip) <;> cases q <;> first | (cases h; exact ⟨_, _, rfl, rfl, rfl⟩) | cases h) ha hb
theorem de_and (ha : DB X κ a fa) (hb : DB X κ b fb) : DE X κ (.BinOp a .BitAnd b pos) (dBin gAnd fa fb) := de_i20 op_and (fun p q z h => by
  (cases p <;> first | (cases h; done) | skip) <;> cases q <;> first | (cases h; exact ⟨_, _, rfl, rfl, rfl⟩) | cases h) ha hb
theorem de_or (ha : DB X κ a fa) (hb : DB X κ b fb) : DE X κ (.BinOp a .BitOr b pos) (dBin gOr fa fb) := de_i20 op_or (fun p q z h => by
  (cases p <;> first | (cases h; done) | skip) <;> cases q <;> first | (cases h; exact ⟨_, _, rfl, rfl, rfl⟩) | cases h) ha hb
theorem ite_some {α : Type} {c : Prop} [Decidable c] {x z : α} (h : (if c then some x else none) = some z) : c ∧ x = z := by
  split at h
  · exact ⟨by assumption, Option.some.inj h⟩
  · cases h
theorem de_div (ha : DB X κ a fa) (hb : DB X κ b fb) : DE X κ (.BinOp a .FloorDiv b pos) (dBin gDiv fa fb) := de_i2 op_fdiv (fun p q z h => by
  (cases p <;> first | (cases h; done) | skip) <;> cases q <;> first | (cases h; done) | skip
  obtain ⟨h1, h2⟩ := ite_some h
  simp only [Bool.and_eq_true, decide_eq_true_eq] at h1
  exact ⟨_, _, rfl, rfl, h1, h2.symm⟩) ha hb
theorem de_mod (ha : DB X κ a fa) (hb : DB X κ b fb) : DE X κ (.BinOp a .Mod b pos) (dBin gMod fa fb) := de_i2 op_mod (fun p q z h => by
  (cases p <;> first | (cases h; done) | skip) <;> cases q <;> first | (cases h; done) | skip
  obtain ⟨h1, h2⟩ := ite_some h
  simp only [Bool.and_eq_true, decide_eq_true_eq] at h1
  exact ⟨_, _, rfl, rfl, h1, h2.symm⟩) ha hb
theorem de_pow (ha : DB X κ a fa) (hb : DB X κ b fb) : DE X κ (.BinOp a .Pow b pos) (dBin gPow fa fb) := de_i2 op_pow (fun p q z h => by
  (cases p <;> first | (cases h; done) | skip) <;> cases q <;> first | (cases h; done) | skip
  obtain ⟨h1, h2⟩ := ite_some h
  simp only [powOk, Bool.and_eq_true, decide_eq_true_eq] at h1
  exact ⟨_, _, rfl, rfl, ⟨h1.1.1, h1.1.2, h1.2⟩, h2.symm⟩) ha hb
theorem de_shl (ha : DB X κ a fa) (hb : DB X κ b fb) : DE X κ (.BinOp a .LShift b pos) (dBin gShl fa fb) := de_i2 op_shl (fun p q z h => by
  (cases p <;> first | (cases h; done) | skip) <;> cases q <;> first | (cases h; done) | skip
  obtain ⟨h1, h2⟩ := ite_some h
  simp only [powOk, Bool.and_eq_true, decide_eq_true_eq] at h1
  exact ⟨_, _, rfl, rfl, ⟨h1.1.1, h1.1.2, h1.2⟩, h2.symm⟩) ha hb
theorem de_shr (ha : DB X κ a fa) (hb : DB X κ b fb) : DE X κ (.BinOp a .RShift b pos) (dBin gShr fa fb) := de_i2 op_shr (fun p q z h => by
  (cases p <;> first | (cases h; done) | skip) <;> cases q <;> first | (cases h; done) | skip
  obtain ⟨h1, h2⟩ := ite_some h
  simp only [Bool.and_eq_true, decide_eq_true_eq] at h1
  exact ⟨_, _, rfl, rfl, h1, h2.symm⟩) ha hb
theorem de_mul (ha : DB X κ a fa) (hb : DB X κ b fb) : DE X κ (.BinOp a .Mult b pos) (dBin gMul fa fb) := de_i2 op_mul (fun p q z h => by
  (cases p <;> first | (cases h; done) | skip) <;> cases q <;> first | (cases h; done) | skip
  obtain ⟨h1, h2⟩ := ite_some h
  simp only [mulOk, Bool.or_eq_true, Bool.and_eq_true, decide_eq_true_eq] at h1
  exact ⟨_, _, rfl, rfl, h1, h2.symm⟩) ha hb
theorem de_neg (ha : DB X κ a fa) : DE X κ (.UnaryOp .USub a pos) (dUn gNeg fa) := by
  obtain ⟨ta, h1, h2⟩ := ha
  refine ⟨_, pe_un un_neg h1, fun {G A bo own ρ σ H p Q} r e q => ?_⟩
  obtain ⟨p1, e1, e⟩ := Option.bind_eq_some_iff.mp e
  refine h2 r e1 fun x H1 s1 b1 => ?_
  cases p1 <;> first | (cases e; done) | skip
  cases e
  exact ⟨_, b1.int, q _ H1 s1 (.int _)⟩
theorem sq_add {K : PySem.W.Frag} : OpR X (binaryOp .Add) (fun x y H Q => ∃ l b xs zs, x = .ref l ∧ y = .ref b ∧ SL X.K H l xs ∧ SL X.K H b zs ∧ xs.length + zs.length ≤ sizeLine ∧ ∀ p, H p = none → Q (.ref p) (upd H p (.lst (xs ++ zs)))) := by
  intro pins s σ H x y v u Q I rx ry h
  obtain ⟨l, b, xs, zs, rfl, rfl, hH, hB, hz, q⟩ := h
  cases rx
  cases ry
  obtain ⟨its, n, r, ho, z⟩ := I.sl hH
  obtain ⟨its2, n2, r2, ho2, z2⟩ := I.sl hB
  have l1 := r.length
  have l2 := r2.length
  refine PySem.P.add_list ho ho2 ?_ (by rw [List.size_toArray, List.size_toArray]; omega)
  have ea : its.toArray ++ its2.toArray = (its ++ its2).toArray := by simp
  rw [ea]
  exact ⟨.ref _, _, I.lnew (t' := s.toks) (r.append r2) (by rw [List.length_append]; omega), rfl, q _ I.fresh⟩
theorem de_add (ha : DB X κ a fa) (hb : DB X κ b fb) : DE X κ (.BinOp a .Add b pos) (dBin gAdd fa fb) := by
  obtain ⟨ta, h1, h2⟩ := ha
  obtain ⟨tb, h3, h4⟩ := hb
  refine ⟨_, pe_op (op_add.or (op_add_str.or (sq_add (K := X.K)))) h1 h3, fun {G A bo own ρ σ H p Q} r e q => ?_⟩
  refine evb2 h2 h4 r e fun x y p1 p2 H' s r' b1 b2 e' => ?_
  (cases p1 <;> first | (cases e'; done) | skip) <;> cases p2 <;> first | (cases e'; done) | skip
  · cases e'
    exact .inl ⟨_, _, b1.int, b2.int, q _ H' s (.int _)⟩
  · obtain ⟨h1, rfl⟩ := ite_some e'
    exact .inr (.inl ⟨_, _, b1.str, b2.str, h1, q _ H' s (.str _)⟩)
  · obtain ⟨h1, rfl⟩ := ite_some e'
    obtain ⟨a1, vs1, rfl, q1, w1⟩ := b1.lst hide_full
    obtain ⟨a2, vs2, rfl, q2, w2⟩ := b2.lst hide_full
    refine .inr (.inr ⟨a1, a2, vs1, vs2, rfl, rfl, q1, q2, by rw [w1.length, w2.length]; exact h1, fun p hp => ?_⟩)
    exact q _ _ (s.trans (same_upd hp)) ((r'.newO hp (w1.append w2)).rep r')
def DC (X : Cx) (κ : Kl) (op : CmpOp) (a b : Expr) (f : Den) : Prop := ∃ r ta tb, OpR X (compareOp op) r ∧ PE X a ta ∧ PE X b tb ∧ EvS X.K κ (tOp r ta tb) f
theorem de_cmp {op : CmpOp} (h : DC X κ op a b f) (hm : behindInMarks op b = false := by first | exact nomark _ | with_unfolding_all rfl) : DE X κ (.Compare a [op] [b] pos) f :=
  let ⟨_, _, _, h1, h2, h3, h4⟩ := h; ⟨_, pe_cmpR h1 h2 h3 hm, h4⟩
theorem tV_test {K : PySem.W.Frag} {te : TE} (h : EvS K κ te f) : EvT K κ (tTest te) (tV f) := fun {G A bo own ρ σ H b Q} r e q => by
  obtain ⟨p, e1, e2⟩ := Option.bind_eq_some_iff.mp e
  refine h r e1 fun v H' s z => ?_
  cases p <;> first | (cases e2; done) | skip
  cases e2
  exact ⟨_, z.toB, q H' s⟩
theorem dt_cmp {op : CmpOp} (h : DC X κ op a b f) (hm : behindInMarks op b = false := by first | exact nomark _ | with_unfolding_all rfl) : DT X κ (.Compare a [op] [b] pos) (tV f) :=
  let ⟨_, _, _, h1, h2, h3, h4⟩ := h; ⟨_, pt_cmpR h1 h2 h3 hm, tV_test h4⟩
theorem dt_val (h : DE X κ e f) (he : ∀ whole, isTrue e X.env whole = (do let v ← whole; standAt e.pos; holding [v] (truthy v)) := by intro _; rfl) : DT X κ e (tV f) :=
  let ⟨_, h1, h2⟩ := h; ⟨_, pt_val h1 he, tV_test h2⟩
theorem dc_i {op : CmpOp} {F : Int → Int → Bool} {g : PV → PV → Option PV} (ho : OpR X (compareOp op) (rI0 fun i j => .bl (F i j))) (hg : ∀ p q z, g p q = some z → ∃ i j, p = .int i ∧ q = .int j ∧ z = .bl (F i j))
    (ha : DB X κ a fa) (hb : DB X κ b fb) : DC X κ op a b (dBin g fa fb) := by
  obtain ⟨ta, h1, h2⟩ := ha
  obtain ⟨tb, h3, h4⟩ := hb
  refine ⟨_, _, _, ho, h1, h3, fun {G A bo own ρ σ H p Q} r e q => ?_⟩
  refine evb2 h2 h4 r e fun x y p1 p2 H' s r' b1 b2 e' => ?_
  obtain ⟨i, j, rfl, rfl, rfl⟩ := hg _ _ _ e'
  exact ⟨i, j, b1.int, b2.int, q _ H' s (.bl _)⟩
theorem dc_lt (ha : DB X κ a fa) (hb : DB X κ b fb) : DC X κ .Lt a b (dBin gLt fa fb) := dc_i op_lt (fun p q z h => by
  (cases p <;> first | (cases h; done) | skip) <;> cases q <;> first | (cases h; exact ⟨_, _, rfl, rfl, rfl⟩) | cases h) ha hb
theorem dc_ge (ha : DB X κ a fa) (hb : DB X κ b fb) : DC X κ .GtE a b (dBin gGe fa fb) := dc_i op_ge (fun p q z h => by
  (cases p <;> first | (cases h; done) | skip) <;> cases q <;> first | (cases h; exact ⟨_, _, rfl, rfl, rfl⟩) | cases h) ha hb
variable {ft fu : DenT} {rest : List Expr}
theorem dt_not (ha : DT X κ a ft) : DT X κ (.UnaryOp .Not a pos) (tNot ft) := by
  obtain ⟨ta, h1, h2⟩ := ha
  refine ⟨_, pt_not h1, fun {G A bo own ρ σ H p Q} r e q => ?_⟩
  obtain ⟨c, e1, rfl⟩ := Option.map_eq_some_iff.mp e
  exact h2 r e1 fun H' s => q H' s
theorem dw_or1 (ha : DT X κ a ft) : DW X κ (.BoolOp .Or [a] pos) ft := let ⟨_, h1, h2⟩ := ha; ⟨_, pw_or1 h1, h2⟩
theorem dw_or (ha : DT X κ a ft) (hb : DW X κ (.BoolOp .Or (b :: rest) pos) fu) : DW X κ (.BoolOp .Or (a :: b :: rest) pos) (tOr ft fu) := by
  obtain ⟨ta, h1, h2⟩ := ha
  obtain ⟨tb, h3, h4⟩ := hb
  refine ⟨_, pw_or h1 h3, fun {G A bo own ρ σ H p Q} r e q => ?_⟩
  obtain ⟨c, e1, e2⟩ := Option.bind_eq_some_iff.mp e
  refine h2 r e1 fun H1 s1 => ?_
  cases c with
  | false => exact h4 (r.mono s1) e2 fun H2 s2 => q H2 (s1.trans s2)
  | true => cases e2; exact q H1 s1
theorem DW.t (h : DW X κ e ft) : DT X κ e ft := let ⟨_, h1, h2⟩ := h; ⟨_, h1.pt, h2⟩
theorem de_one {op} (h : DE X κ a f) : DE X κ (.BoolOp op [a] pos) f := let ⟨_, h1, h2⟩ := h; ⟨_, pe_one h1, h2⟩
theorem de_andV (ha : DE X κ a fa) (hb : DE X κ (.BoolOp .And (b :: rest) pos) fb) : DE X κ (.BoolOp .And (a :: b :: rest) pos) (dAndV fa fb) := by
  obtain ⟨ta, h1, h2⟩ := ha
  obtain ⟨tb, h3, h4⟩ := hb
  refine ⟨_, pe_and h1 h3, fun {G A bo own ρ σ H p Q} r e q => ?_⟩
  obtain ⟨x, e1, e2⟩ := Option.bind_eq_some_iff.mp e
  obtain ⟨c, e3, e4⟩ := Option.bind_eq_some_iff.mp e2
  refine h2 r e1 fun v H1 s1 z => ?_
  cases x <;> first | (cases e3; done) | skip
  cases e3
  refine ⟨_, z.toB, ?_⟩
  cases c with
  | true => exact h4 (r.mono s1) e4 fun v H2 s2 z => q v H2 (s1.trans s2) z
  | false => cases e4; exact q _ H1 s1 (.bl _)
theorem de_notV (ha : DE X κ a fa) : DE X κ (.UnaryOp .Not a pos) (dNotV fa) := by
  obtain ⟨ta, h1, h2⟩ := ha
  refine ⟨_, pe_not h1, fun {G A bo own ρ σ H p Q} r e q => ?_⟩
  obtain ⟨x, e1, e2⟩ := Option.bind_eq_some_iff.mp e
  obtain ⟨c, e3, rfl⟩ := Option.map_eq_some_iff.mp e2
  refine h2 r e1 fun v H1 s1 z => ?_
  cases x <;> first | (cases e3; done) | skip
  cases e3
  exact ⟨_, z.toB, q _ H1 s1 (.bl _)⟩
def DA (X : Cx) (κ : Kl) (es : List Expr) (f : DenL) : Prop := ∃ ta, PA X es ta ∧ ∀ {G A bo own ρ σ H ps Q}, R X.K κ G A bo own ρ σ H → f ρ = some ps → (∀ vs H', Same H H' → Reps X.K κ (hid A own ρ H') vs ps → Q vs H') → ta σ H Q
inductive BRs (K : PySem.W.Frag) (κ : Kl) (hH H : Hp) : List V → List PV → Prop
  | nil : BRs K κ hH H [] []
  | cons {v : V} {p : PV} {vs : List V} {l : List PV} : BR K κ hH H v p → BRs K κ hH H vs l → BRs K κ hH H (v :: vs) (p :: l)
theorem BRs.full {K : PySem.W.Frag} {hH H : Hp} (s : Same hH H) : ∀ {vs : List V} {ps : List PV}, BRs K κ hH H vs ps → Reps K κ H vs ps
  | _, _, .nil => .nil
  | _, _, .cons r t => .cons (r.full s) (BRs.full s t)
def DAB (X : Cx) (κ : Kl) (es : List Expr) (f : DenL) : Prop := ∃ ta, PA X es ta ∧ ∀ {G A bo own ρ σ H ps Q}, R X.K κ G A bo own ρ σ H → f ρ = some ps → (∀ vs H', Same H H' → BRs X.K κ (hid A own ρ H') H' vs ps → Q vs H') → ta σ H Q
variable {es : List Expr} {fs : DenL}
theorem da_nil : DA X κ [] dNil := ⟨_, pa_nil, fun {G A bo own ρ σ H ps Q} r e q => by cases e; exact q [] H (Same.refl _) .nil⟩
theorem dab_nil : DAB X κ [] dNil := ⟨_, pa_nil, fun {G A bo own ρ σ H ps Q} r e q => by cases e; exact q [] H (Same.refl _) .nil⟩
theorem da_cons (ha : DE X κ a fa) (hr : DA X κ es fs) (hs : starEach (a :: es) X.env = (false, eval a X.env) :: starEach es X.env := by rfl) : DA X κ (a :: es) (dCons fa fs) := by
  obtain ⟨ta, h1, h2⟩ := ha
  obtain ⟨tb, h3, h4⟩ := hr
  refine ⟨_, pa_cons h1 h3 hs, fun {G A bo own ρ σ H ps Q} r e q => ?_⟩
  obtain ⟨x, e1, e2⟩ := Option.bind_eq_some_iff.mp e
  obtain ⟨xs, e3, e4⟩ := Option.bind_eq_some_iff.mp e2
  cases e4
  refine h2 r e1 fun v H1 s1 z1 => h4 (r.mono s1) e3 fun vs H2 s2 z2 => q _ H2 (s1.trans s2) (.cons (z1.mono (hide_same s2)) z2)
theorem dab_cons (ha : DB X κ a fa) (hr : DAB X κ es fs) (hs : starEach (a :: es) X.env = (false, eval a X.env) :: starEach es X.env := by rfl) : DAB X κ (a :: es) (dCons fa fs) := by
  obtain ⟨ta, h1, h2⟩ := ha
  obtain ⟨tb, h3, h4⟩ := hr
  refine ⟨_, pa_cons h1 h3 hs, fun {G A bo own ρ σ H ps Q} r e q => ?_⟩
  obtain ⟨x, e1, e2⟩ := Option.bind_eq_some_iff.mp e
  obtain ⟨xs, e3, e4⟩ := Option.bind_eq_some_iff.mp e2
  cases e4
  refine h2 r e1 fun v H1 s1 z1 => h4 (r.mono s1) e3 fun vs H2 s2 z2 => q _ H2 (s1.trans s2) (.cons (z1.mono' s2) z2)
theorem do_lst (h : DA X κ es fs) : DO X κ (.List es pos) (dLst fs) := by
  obtain ⟨ta, h1, h2⟩ := h
  refine ⟨_, pe_lst h1, fun {G A bo own ρ σ H ps Q} r e q => ?_⟩
  obtain ⟨x, e1, e2⟩ := Option.bind_eq_some_iff.mp e
  obtain ⟨h3, rfl⟩ := ite_some e2
  refine h2 r e1 fun vs H1 s1 z1 => ⟨by rw [z1.length]; exact h3, fun p hp => q _ _ (s1.trans (same_upd hp)) ?_⟩
  obtain ⟨a, ws, l, w1, w2, w3, w4⟩ := (r.mono s1).newO hp z1
  refine ⟨a, ws, l, w1, w2, ?_, w4⟩
  cases w1
  exact s1.free hp
theorem de_tup {x1} (h : DA X κ es fs) : DE X κ (.Tuple es x1 pos) (dTup fs) := by
  obtain ⟨ta, h1, h2⟩ := h
  refine ⟨_, pe_tup h1, fun {G A bo own ρ σ H ps Q} r e q => ?_⟩
  obtain ⟨x, e1, e2⟩ := Option.bind_eq_some_iff.mp e
  obtain ⟨h3, rfl⟩ := ite_some e2
  exact h2 r e1 fun vs H1 s1 z1 => ⟨by rw [z1.length]; exact h3, fun p hp => q _ _ (s1.trans (same_upd hp)) ((r.mono s1).newT hp z1)⟩
end
end L2.D
set_option Elab.async false
set_option linter.all false
set_option maxRecDepth 100000
set_option maxHeartbeats 1000000
namespace L2.D
open PySem PySem.Spec PyProof.Rows
open Classical
def RR (fr : Bool) (K : PySem.W.Frag) (κ : Kl) (A : Addr → Prop) (G H' : Hp) (v : V) (p : PV) : Prop := if fr = true then OR K κ A G H' v p else Rep K κ (hide A H') v p
def Cont (K : PySem.W.Frag) (κ : Kl) (fr : Bool) (G : Hp) (A : Addr → Prop) (bo : Nat → Option (Addr × List V)) (D : Ends) : Fl → Prop
  | .nx ρ' => ∀ own' σ' H', R K κ G A bo own' ρ' σ' H' → D.nx σ' H'
  | .bk ρ' => ∀ own' σ' H', R K κ G A bo own' ρ' σ' H' → D.bk σ' H'
  | .ct ρ' => ∀ own' σ' H', R K κ G A bo own' ρ' σ' H' → D.ct σ' H'
  | .rt p => ∀ v H', Same G H' → RR fr K κ A G H' v p → D.rt v H'
def SvT (K : PySem.W.Frag) (κ : Kl) (fr : Bool) (ts : TS) (g : DenS) : Prop :=
  ∀ {G A bo own ρ σ H fl D}, R K κ G A bo own ρ σ H → g ρ = some fl → Cont K κ fr G A bo D fl → ts D σ H
def DS (X : Cx) (κ : Kl) (fr : Bool) (st : Stmt) (g : DenS) : Prop := ∃ ts, PS X st ts ∧ SvT X.K κ fr ts g
def DSs (X : Cx) (κ : Kl) (fr : Bool) (st : List Stmt) (g : DenS) : Prop := ∃ ts, PSs X st ts ∧ SvT X.K κ fr ts g
theorem ORg {K : PySem.W.Frag} {κ : Kl} {G H H' : Hp} {A B : Addr → Prop} {v : V} {p : PV} (h : OR K κ B H H' v p) (s : Same G H) (hAB : ∀ b, A b → B b) : OR K κ A G H' v p := by
  obtain ⟨a, vs, l, h1, h2, h3, h4, h5⟩ := h
  exact ⟨a, vs, l, h1, h2, s.free h3, h4, h5.mono (hide_sub (fun _ _ z => z) fun b z _ => z.imp (hAB b) id)⟩
section
variable {X : Cx} {κ : Kl} {fr : Bool} {st : Stmt} {rest : List Stmt} {g g' : DenS} {e a b c : Expr} {f : Den} {ft : DenT} {pos : Pos}
theorem dss_nil : DSs X κ fr [] sNext := ⟨_, pss_nil, fun {G A bo own ρ σ H fl D} r e k => by cases e; exact k own σ H r⟩
theorem svt_seq {K : PySem.W.Frag} {t u : TS} (h1 : SvT K κ fr t g) (h2 : SvT K κ fr u g') : SvT K κ fr (tSeq t u) (sSeq g g') := fun {G A bo own ρ σ H fl D} r e k => by
  obtain ⟨f1, e1, e2⟩ := Option.bind_eq_some_iff.mp e
  refine h1 r e1 ?_
  cases f1 with
  | nx ρ' => exact fun own' σ' H' r' => h2 r' e2 k
  | rt p => cases e2; exact k
  | bk ρ' => cases e2; exact k
  | ct ρ' => cases e2; exact k
theorem dss_cons (h1 : DS X κ fr st g) (h2 : DSs X κ fr rest g') : DSs X κ fr (st :: rest) (sSeq g g') :=
  let ⟨_, a1, a2⟩ := h1; let ⟨_, b1, b2⟩ := h2; ⟨_, pss_cons a1 b1, svt_seq a2 b2⟩
theorem dss_one (h1 : DS X κ fr st g) : DSs X κ fr [st] g := let ⟨_, a1, a2⟩ := h1; ⟨_, pss_one a1, a2⟩
theorem ds_ret (h : DE X κ e f) : DS X κ false (.Return (some e) pos) (sRet f) := by
  obtain ⟨te, h1, h2⟩ := h
  refine ⟨_, ps_ret h1, fun {G A bo own ρ σ H fl D} r e k => ?_⟩
  obtain ⟨p, e1, rfl⟩ := Option.map_eq_some_iff.mp e
  refine h2 r e1 fun v H' s z => k v H' (r.same.trans s) ?_
  exact z.mono (hide_sub (fun _ _ q => q) fun b q _ => .inl q)
theorem ds_retO (h : DO X κ e f) : DS X κ true (.Return (some e) pos) (sRet f) := by
  obtain ⟨te, h1, h2⟩ := h
  refine ⟨_, ps_ret h1, fun {G A bo own ρ σ H fl D} r e k => ?_⟩
  obtain ⟨p, e1, rfl⟩ := Option.map_eq_some_iff.mp e
  refine h2 r e1 fun v H' s z => k v H' (r.same.trans s) ?_
  exact ORg z r.same fun b q => .inl q
theorem ownL_some {ρ : Sto} {i : Nat} {l : List PV} (h : ownL ρ i = some l) : ρ[i]? = some (.ow l) := by
  unfold ownL at h
  split at h
  · rename_i l' e
    cases h
    exact e
  · cases h
theorem ds_retV (i : Nat) {x : Str} {p' : Pos} (hN : X.N[i]? = some x := by rfl) (hv : Vis X.env.scope x := by first | exact Or.inl rfl | exact Or.inr (Or.inl rfl) | exact Or.inr (Or.inr rfl)) (hd : (x == ("__debug__" : Str)) = false := by decide)
    (hcd : (x == ("__classdict__" : Str)) = false := by decide) : DS X κ true (.Return (some (.Name x p')) pos) (sRetV i) := by
  refine ⟨_, ps_ret (pe_var hN hv hd hcd), fun {G A bo own ρ σ H fl D} r e k => ?_⟩
  obtain ⟨l, e1, rfl⟩ := Option.map_eq_some_iff.mp e
  obtain ⟨h1, h3, vs, h4, h5⟩ := r.ow i (.l l) (ownL_some e1)
  change H (own i) = some (.lst vs) at h4
  change Reps _ _ _ vs l at h5
  refine ⟨_, h1, k _ H r.same ?_⟩
  exact ⟨own i, vs, l, rfl, rfl, h3, h4, h5.mono (hide_sub (fun _ _ z => z) fun b z _ => by
    rcases z with z | z
    · exact .inl z
    · exact .inr ⟨i, .l l, ownL_some e1, z.symm⟩)⟩
theorem ds_if {sa sb : List Stmt} (hc : DT X κ c ft) (ha : DSs X κ fr sa g) (hb : DSs X κ fr sb g') : DS X κ fr (.If c sa sb pos) (sIf ft g g') := by
  obtain ⟨tc, h5, h6⟩ := hc
  obtain ⟨ta, h1, h2⟩ := ha
  obtain ⟨tb, h3, h4⟩ := hb
  refine ⟨_, ps_if h5 h1 h3, fun {G A bo own ρ σ H fl D} r e k => ?_⟩
  obtain ⟨c, e1, e2⟩ := Option.bind_eq_some_iff.mp e
  refine h6 r e1 fun H1 s1 => ?_
  cases c with
  | true => exact h2 (r.mono s1) e2 k
  | false => exact h4 (r.mono s1) e2 k
theorem ds_set (i : Nat) {x : Str} {p' : Pos} (hN : X.N.Nodup) (h : DE X κ e f) (hi : X.N[i]? = some x := by rfl) (hx : Loc X.env.scope x := by first | exact Or.inl rfl | exact Or.inr rfl) (hs : swapsWith e (some (.Name x p')) pos.line X.env = pure false := by rfl)
    (hf : X.fn x = true ∨ X.env.scope.names.lookup x = some .local := by first | exact .inl rfl | exact .inr rfl) : DS X κ fr (.Assign [.Name x p'] e pos) (sSet i f) := by
  obtain ⟨te, h1, h2⟩ := h
  refine ⟨_, ps_set hN hi hx h1 hs hf, fun {G A bo own ρ σ H fl D} r e k => ?_⟩
  obtain ⟨p, e1, rfl⟩ := Option.map_eq_some_iff.mp e
  exact h2 r e1 fun v H' s z => k _ _ _ ((r.mono s).set z)
theorem R.setN {K : PySem.W.Frag} {G H H' : Hp} {A : Addr → Prop} {bo : Nat → Option (Addr × List V)} {own : Nat → Addr} {ρ : Sto} {σ : St} (r : R K κ G A bo own ρ σ H) (s : Same H H') {i : Nat} {v : V} {l : List PV} (z : OR K κ (hset A own ρ) H H' v (.lst l)) :
    ∃ own', R K κ G A bo own' (ρ.set i (.ow l)) (σ.set i (some v)) H' := by
  obtain ⟨a, vs, l', rfl, z2, h3, h4, h5⟩ := z
  cases z2
  refine ⟨_, r.setO (r.same.free h3) (fun q => r.new h3 (.inl q)) (fun j m e _ q => r.new h3 (.inr ⟨j, m, e, q⟩)) ?_ (fun b o q _ => s b o q) h4 h5⟩
  exact hide_sub s fun b w nz => by
    rcases w with w | w
    · exact w
    · rw [w] at nz
      exact absurd h3 nz
theorem ds_setO (i : Nat) {x : Str} {p' : Pos} (hN : X.N.Nodup) (h : DO X κ e f) (hi : X.N[i]? = some x := by rfl) (hx : Loc X.env.scope x := by first | exact Or.inl rfl | exact Or.inr rfl) (hs : swapsWith e (some (.Name x p')) pos.line X.env = pure false := by rfl)
    (hf : X.fn x = true ∨ X.env.scope.names.lookup x = some .local := by first | exact .inl rfl | exact .inr rfl) : DS X κ fr (.Assign [.Name x p'] e pos) (sSetO i f) := by
  obtain ⟨te, h1, h2⟩ := h
  refine ⟨_, ps_set hN hi hx h1 hs hf, fun {G A bo own ρ σ H fl D} r e k => ?_⟩
  obtain ⟨p, e1, e2⟩ := Option.bind_eq_some_iff.mp e
  obtain ⟨l, e3, rfl⟩ := Option.map_eq_some_iff.mp e2
  refine h2 r e1 fun v H' s z => ?_
  cases p <;> first | (cases e3; done) | skip
  cases e3
  obtain ⟨own', r'⟩ := r.setN s (i := i) z
  exact k _ _ _ r'
theorem R.mutC {K : PySem.W.Frag} {G H : Hp} {A : Addr → Prop} {bo : Nat → Option (Addr × List V)} {own : Nat → Addr} {ρ : Sto} {σ : St} (r : R K κ G A bo own ρ σ H) {i : Nat} {l l' : Cn} {ws : List V} (h : ρ[i]? = some (.own l)) (q : Reps K κ (hid A own ρ H) ws (itOf l')) :
    ∃ own', R K κ G A bo own' (ρ.set i (.own l')) σ (upd H (own i) (hoOf l' ws)) := by
  obtain ⟨h1, h3, vs, h4, h5⟩ := r.ow i l h
  have e : σ.set i (some (.ref (own i))) = σ := by
    obtain ⟨hl, hx⟩ := List.getElem?_eq_some_iff.mp h1
    rw [← hx]
    exact List.set_getElem_self hl
  have hs : hset A own ρ (own i) := .inr ⟨i, l, h, rfl⟩
  have he : hide (fun b => hset A own ρ b ∨ b = own i) (upd H (own i) (hoOf l' ws)) = hid A own ρ H := by
    rw [hide_upd (.inr rfl)]
    congr 1
    funext b
    refine propext ⟨fun z => ?_, .inl⟩
    rcases z with z | z
    · exact z
    · rw [z]
      exact hs
  have := r.setO (i := i) (a := own i) (vs := ws) (l := l') (H1 := upd H (own i) (hoOf l' ws)) h3 (fun z => r.al _ z h3) (fun j m e' hj z => hj (r.inj j i _ _ e' h z)) (by rw [he]; exact fun _ _ z => z) (fun b o z hb => by rw [upd_ne hb]; exact z) upd_same (by rw [he]; exact q)
  rw [e] at this
  exact ⟨_, this⟩
def MutOk (K : PySem.W.Frag) (κ : Kl) (rm : V → List V → Hp → VK → Prop) (gm : List PV → List PV → Option (List PV)) : Prop :=
  ∀ {hH H : Hp} {a : Addr} {vs ws : List V} {l xs l' : List PV} {Q : VK}, Same hH H → H a = some (.lst vs) → Reps K κ hH vs l → Reps K κ hH ws xs → gm l xs = some l' → (∀ us, Reps K κ hH us l' → Q .non (upd H a (.lst us))) → rm (.ref a) ws H Q
theorem R.mut {K : PySem.W.Frag} {G H : Hp} {A : Addr → Prop} {bo : Nat → Option (Addr × List V)} {own : Nat → Addr} {ρ : Sto} {σ : St} (r : R K κ G A bo own ρ σ H) {i : Nat} {l l' : List PV} {ws : List V} (h : ρ[i]? = some (.ow l)) (q : Reps K κ (hid A own ρ H) ws l') :
    ∃ own', R K κ G A bo own' (ρ.set i (.ow l')) σ (upd H (own i) (.lst ws)) := r.mutC (l := .l l) (l' := .l l') h q
theorem svt_mut {K : PySem.W.Frag} {rm : V → List V → Hp → VK → Prop} {gm : List PV → List PV → Option (List PV)} {fs : DenL} {ta : TA} (i : Nat) (hg : MutOk K κ rm gm)
    (ha : ∀ {G A bo own ρ σ H ps Q}, R K κ G A bo own ρ σ H → fs ρ = some ps → (∀ vs H', Same H H' → Reps K κ (hid A own ρ H') vs ps → Q vs H') → ta σ H Q) : SvT K κ fr (tDrop (tBM K "list" rm (tVar i) ta)) (sMut i gm fs) := fun {G A bo own ρ σ H fl D} r e k => by
  obtain ⟨xs, e1, e2⟩ := Option.bind_eq_some_iff.mp e
  obtain ⟨l, e3, e4⟩ := Option.bind_eq_some_iff.mp e2
  obtain ⟨l', e5, rfl⟩ := Option.map_eq_some_iff.mp e4
  have e3' := ownL_some e3
  obtain ⟨h1, h3, vs, h4, h5⟩ := r.ow i (.l l) e3'
  change H (own i) = some (.lst vs) at h4
  change Reps _ _ _ vs l at h5
  refine ⟨_, h1, .inl ⟨rfl, vs, SqL.of h4⟩, ha r e1 fun ws H2 s2 z2 => ?_⟩
  refine hg hide_full (s2 _ _ h4) (h5.mono (hide_same s2)) z2 e5 fun us z => ?_
  obtain ⟨own', r'⟩ := (r.mono s2).mut e3' z
  exact k _ _ _ r'
theorem svt_mut0 {K : PySem.W.Frag} {rm : V → List V → Hp → VK → Prop} {gm : List PV → List PV → Option (List PV)} (i : Nat) (hg : MutOk K κ rm gm) : SvT K κ fr (tDrop (tBM0 K "list" rm (tVar i))) (sMut i gm dNil) := fun {G A bo own ρ σ H fl D} r e k => by
  obtain ⟨xs, e1, e2⟩ := Option.bind_eq_some_iff.mp e
  obtain ⟨l, e3, e4⟩ := Option.bind_eq_some_iff.mp e2
  obtain ⟨l', e5, rfl⟩ := Option.map_eq_some_iff.mp e4
  have e3' := ownL_some e3
  obtain ⟨h1, h3, vs, h4, h5⟩ := r.ow i (.l l) e3'
  change H (own i) = some (.lst vs) at h4
  change Reps _ _ _ vs l at h5
  cases e1
  refine ⟨_, h1, .inl ⟨rfl, vs, SqL.of h4⟩, ?_⟩
  refine hg hide_full h4 h5 .nil e5 fun us z => ?_
  obtain ⟨own', r'⟩ := r.mut e3' z
  exact k _ _ _ r'
theorem ds_append {x : Str} {p' apos cpos : Pos} {ee : Expr} {fs : DenL} (i : Nat) (ha : DA X κ [ee] fs) (hN : X.N[i]? = some x := by rfl) (hv : Vis X.env.scope x := by first | exact Or.inl rfl | exact Or.inr (Or.inl rfl) | exact Or.inr (Or.inr rfl)) (hd : (x == ("__debug__" : Str)) = false := by decide)
    (hcd : (x == ("__classdict__" : Str)) = false := by decide) (hbase : attributeBase (.Name x p') "append" X.env (eval (.Name x p') X.env) = eval (.Name x p') X.env := by rfl)
    (hfew : ((backTo cpos (starEach [ee] X.env)).all (fun x => !x.1) && (backToKw cpos (keywordEach [] X.env)).all (fun x => x.1.isSome)
      && decide ([ee].length + ([] : List Keyword).length + (if ([] : List Keyword).isEmpty then 0 else 1) < 30)) = true := by rfl)
    (hs : swapsWith (.Call (.Attribute (.Name x p') "append" apos) [ee] [] cpos) none pos.line X.env = pure false := by rfl) (hline : (apos.endLine == cpos.line) = true := by rfl) (hst : starEach [ee] X.env = (false, eval ee X.env) :: starEach [] X.env := by rfl) :
    DS X κ fr (.Expr (.Call (.Attribute (.Name x p') "append" apos) [ee] [] cpos) pos) (sMut i mAppend fs) := by
  obtain ⟨ta, h1, h2⟩ := ha
  refine ⟨_, ps_expr (pe_bm PySem.F.plainAttrs_list PySem.F.slot_list_append PySem.F.type_list_append mt_append (pe_var hN hv hd hcd) h1 hbase hfew hline hst rfl) hs, svt_mut i ?_ h2⟩
  intro hH H a vs ws l xs l' Q s h3 h4 h5 h6 q
  unfold mAppend at h6
  split at h6
  · obtain ⟨h7, rfl⟩ := ite_some h6
    cases h5 with
    | cons z t =>
      cases t
      exact ⟨a, vs, _, rfl, rfl, h3, by rw [h4.length]; exact h7, q _ (h4.append (.cons z .nil))⟩
  · cases h6
theorem ds_clear {x : Str} {p' apos cpos : Pos} (i : Nat) (hN : X.N[i]? = some x := by rfl) (hv : Vis X.env.scope x := by first | exact Or.inl rfl | exact Or.inr (Or.inl rfl) | exact Or.inr (Or.inr rfl)) (hd : (x == ("__debug__" : Str)) = false := by decide)
    (hcd : (x == ("__classdict__" : Str)) = false := by decide) (hbase : attributeBase (.Name x p') "clear" X.env (eval (.Name x p') X.env) = eval (.Name x p') X.env := by rfl)
    (hs : swapsWith (.Call (.Attribute (.Name x p') "clear" apos) [] [] cpos) none pos.line X.env = pure false := by rfl) (hline : (apos.endLine == cpos.line) = true := by rfl) :
    DS X κ fr (.Expr (.Call (.Attribute (.Name x p') "clear" apos) [] [] cpos) pos) (sMut i mClear dNil) := by
  refine ⟨_, ps_expr (pe_bm0 PySem.F.plainAttrs_list PySem.F.slot_list_clear PySem.F.type_list_clear mt_clear (pe_var hN hv hd hcd) hbase hline) hs, svt_mut0 i ?_⟩
  intro hH H a vs ws l xs l' Q s h3 h4 h5 h6 q
  cases h5 with
  | cons _ _ => cases h6
  | nil =>
    cases h6
    exact ⟨a, vs, rfl, rfl, h3, q [] .nil⟩
end
def ItOk (K : PySem.W.Frag) (κ : Kl) (Gs : Hp) (A : Addr → Prop) (J : It) (ps : List PV) : Prop :=
  ∀ (i : Nat) (H2 : Hp), Same Gs H2 → (∀ p, ps[i]? = some p → J.go i H2 ∧ ∀ x H3, J.yld i H2 x H3 → Same H2 H3 ∧ ∀ B : Addr → Prop, (∀ b, B b → H2 b ≠ none) → Same (hide A Gs) (hide B H2) → Rep K κ (hide B H3) x p) ∧ (ps.length ≤ i → J.stop i H2)
def DI (X : Cx) (κ : Kl) (tg iter : Expr) (f : DenL) : Prop := ∃ wi, PI X tg iter wi ∧ ∀ {G A bo own ρ σ H ps Q}, R X.K κ G A bo own ρ σ H → f ρ = some ps → (∀ J H', Same H H' → ItOk X.K κ (vis own ρ H') A J ps → Q J H') → wi σ H Q
def DIB (X : Cx) (κ : Kl) (tg iter : Expr) (f : DenL) : Prop := ∃ wi, PI X tg iter wi ∧ ∀ {G A bo own ρ σ H ps Q}, R X.K κ G A bo own ρ σ H → f ρ = some ps → (∀ J H', Same H H' → ItOk X.K κ H' (hset A own ρ) J ps → Q J H') → wi σ H Q
def DG (X : Cx) (κ : Kl) (tg : Expr) (g : Tgt) : Prop := ∃ tt, PG X tg tt ∧ ∀ {G A bo own ρ σ H p v ρ' Q}, R X.K κ G A bo own ρ σ H → Rep X.K κ (hid A own ρ H) v p → g p ρ = some ρ' → (∀ own' σ', R X.K κ G A bo own' ρ' σ' H → Same (hid A own ρ H) (hid A own' ρ' H) → Q σ' H) → tt v σ H Q
section
variable {K : PySem.W.Frag} {κ : Kl} {Gs : Hp} {A : Addr → Prop} {a : Addr} {vs : List V} {l : List PV}
theorem itok_list (h : SL K Gs a vs) (q : Reps K κ (hide A Gs) vs l) : ItOk K κ Gs A (Itl K a) l := fun i H2 s => by
  have h2 : SqL K H2 a vs := (s.sl h).sq
  refine ⟨fun p e => ?_, fun hl => ⟨vs, h2, by rw [q.length]; exact hl⟩⟩
  obtain ⟨v, e1, r1⟩ := q.get e
  refine ⟨⟨vs, v, h2, e1⟩, fun x H3 ⟨y1, y2⟩ => ?_⟩
  subst y1
  have := y2 vs h2
  rw [e1] at this
  cases this
  exact ⟨Same.refl _, fun B _ sb => r1.mono sb⟩
theorem itok_tup (h : SqT K Gs a vs) (q : Reps K κ (hide A Gs) vs l) : ItOk K κ Gs A (Itt K a) l := fun i H2 s => by
  have h2 : SqT K H2 a vs := sameT s h
  refine ⟨fun p e => ?_, fun hl => ⟨vs, h2, by rw [q.length]; exact hl⟩⟩
  obtain ⟨v, e1, r1⟩ := q.get e
  refine ⟨⟨vs, v, h2, e1⟩, fun x H3 ⟨y1, y2⟩ => ?_⟩
  subst y1
  have := y2 vs h2
  rw [e1] at this
  cases this
  exact ⟨Same.refl _, fun B _ sb => r1.mono sb⟩
theorem rangeP_get {lo : Int} {n i : Nat} {p : PV} (h : (rangeP lo n)[i]? = some p) : i < n ∧ p = .int (lo + (i : Nat)) := by
  unfold rangeP at h
  rw [List.getElem?_map] at h
  obtain ⟨k, h1, rfl⟩ := Option.map_eq_some_iff.mp h
  obtain ⟨h2, h3⟩ := List.getElem?_eq_some_iff.mp h1
  rw [List.getElem_range] at h3
  subst h3
  exact ⟨by simpa using h2, rfl⟩
theorem itok_range {lo : Int} {n : Nat} : ItOk K κ Gs A (Itr lo n) (rangeP lo n) := fun i H2 s => by
  refine ⟨fun p e => ?_, fun hl => show n ≤ i by simpa [rangeP] using hl⟩
  obtain ⟨h1, rfl⟩ := rangeP_get e
  refine ⟨h1, fun x H3 ⟨y1, y2⟩ => ?_⟩
  subst y1 y2
  exact ⟨Same.refl _, fun B _ _ => .int _⟩
end
section
variable {X : Cx} {κ : Kl} {fr : Bool} {g : DenS} {e a b c tg iter : Expr} {f fa fb : Den} {ft : DenT} {pos : Pos} {fi : DenL} {gt gu : Tgt} {body : List Stmt}
theorem hid_vis {A : Addr → Prop} {own : Nat → Addr} {ρ : Sto} {H : Hp} : Same (hid A own ρ H) (vis own ρ H) := by
  rw [← hide_vis]
  exact hide_full
theorem di_list (h : DE X κ e f) : DI X κ tg e (nList f) := by
  obtain ⟨te, h1, h2⟩ := h
  refine ⟨_, pi_list h1, fun {G A bo own ρ σ H ps Q} r e q => ?_⟩
  obtain ⟨p, e1, e2⟩ := Option.bind_eq_some_iff.mp e
  refine h2 r e1 fun v H' s z => ?_
  cases p <;> first | (cases e2; done) | skip
  cases e2
  cases z with
  | lst q1 q2 => exact ⟨_, rfl, ⟨_, ((hide_full (A := hset A own ρ)).sl q1).sq⟩, q _ H' s (itok_list (hid_vis.sl q1) (by rw [hide_vis]; exact q2))⟩
theorem dib_list (h : DB X κ e f) : DIB X κ tg e (nList f) := by
  obtain ⟨te, h1, h2⟩ := h
  refine ⟨_, pi_list h1, fun {G A bo own ρ σ H ps Q} r e q => ?_⟩
  obtain ⟨p, e1, e2⟩ := Option.bind_eq_some_iff.mp e
  refine h2 r e1 fun v H' s z => ?_
  cases p <;> first | (cases e2; done) | skip
  cases e2
  obtain ⟨a, vs, rfl, q1, q2⟩ := z.lst hide_full
  exact ⟨_, rfl, ⟨_, q1.sq⟩, q _ H' s (itok_list q1 q2)⟩
theorem di_tup (h : DE X κ e f) : DI X κ tg e (nTup f) := by
  obtain ⟨te, h1, h2⟩ := h
  refine ⟨_, pi_tup h1, fun {G A bo own ρ σ H ps Q} r e q => ?_⟩
  obtain ⟨p, e1, e2⟩ := Option.bind_eq_some_iff.mp e
  refine h2 r e1 fun v H' s z => ?_
  cases p <;> first | (cases e2; done) | skip
  cases e2
  cases z with
  | tup q1 q2 => exact ⟨_, rfl, ⟨_, sameT (hide_full (A := hset A own ρ)) q1⟩, q _ H' s (itok_tup (sameT hid_vis q1) (by rw [hide_vis]; exact q2))⟩
theorem evr1 {K : PySem.W.Frag} {te : TE} (h2 : EvB K κ te f) {G A bo own ρ σ H ps} {Q : It → Hp → Prop} (r : R K κ G A bo own ρ σ H) (e : nRng1 f ρ = some ps) (q : ∀ n H', Same H H' → ps = rangeP 0 n → Q (Itr 0 n) H') : iRng1 (tCons te tNil) σ H Q := by
  obtain ⟨p, e1, e2⟩ := Option.bind_eq_some_iff.mp e
  obtain ⟨j, e3, e4⟩ := Option.bind_eq_some_iff.mp e2
  obtain ⟨h3, h4⟩ := ite_some e4
  simp only [rngOk, Bool.and_eq_true, decide_eq_true_eq] at h3
  refine h2 r e1 fun v H' s z => ?_
  cases p <;> first | (cases e3; done) | skip
  cases e3
  exact ⟨_, by rw [z.int], h3.1, h3.2, q _ H' s h4.symm⟩
theorem di_rng1 {p pos : Pos} (h : DB X κ a f) (hm : X.mg "range" = none) (hg : Gl X "range" := by rfl) (hs : starEach [a] X.env = [(false, eval a X.env)] := by rfl) : DI X κ tg (.Call (.Name "range" p) [a] [] pos) (nRng1 f) := by
  obtain ⟨te, h1, h2⟩ := h
  exact ⟨_, pi_range1 hg hm (pa_cons h1 pa_nil hs) hs, fun {G A bo own ρ σ H ps Q} r e q => evr1 h2 r e fun n H' s e' => q _ H' s (by rw [e']; exact itok_range)⟩
theorem dib_rng1 {p pos : Pos} (h : DB X κ a f) (hm : X.mg "range" = none) (hg : Gl X "range" := by rfl) (hs : starEach [a] X.env = [(false, eval a X.env)] := by rfl) : DIB X κ tg (.Call (.Name "range" p) [a] [] pos) (nRng1 f) := by
  obtain ⟨te, h1, h2⟩ := h
  exact ⟨_, pi_range1 hg hm (pa_cons h1 pa_nil hs) hs, fun {G A bo own ρ σ H ps Q} r e q => evr1 h2 r e fun n H' s e' => q _ H' s (by rw [e']; exact itok_range)⟩
theorem dg_name (i : Nat) {x : Str} (hN : X.N.Nodup) (hi : X.N[i]? = some x := by rfl) (hx : Loc X.env.scope x := by first | exact Or.inl rfl | exact Or.inr rfl) (hf : X.fn x = true ∨ X.env.scope.names.lookup x = some .local := by first | exact .inl rfl | exact .inr rfl) : DG X κ (.Name x pos) (gtName i) :=
  ⟨_, pg_name hN hi hx hf, fun {G A bo own ρ σ H p v ρ' Q} r z e q => by cases e; exact q _ _ (r.set z) hid_set⟩
end
end L2.D
set_option Elab.async false
set_option linter.all false
set_option maxRecDepth 100000
set_option maxHeartbeats 1000000
namespace L2.D
open PySem PySem.Spec PyProof.Rows
open Classical
section
variable {K : PySem.W.Frag} {κ : Kl} {fr : Bool} {gb : DenS} {ft : DenT} {gt : Tgt} {fi : DenL}
theorem forL_cons {g : Tgt} {body : DenS} {x : PV} {xs : List PV} {ρ : Sto} {fl : Fl} (h : forL g body (x :: xs) ρ = some fl) : ∃ ρ1 f, g x ρ = some ρ1 ∧ body ρ1 = some f ∧ (match f with
    | .nx ρ' => forL g body xs ρ'
    | .ct ρ' => forL g body xs ρ'
    | .bk ρ' => some (.nx ρ')
    | .rt p => some (.rt p)) = some fl := by
  unfold forL at h
  obtain ⟨ρ1, e1, e2⟩ := Option.bind_eq_some_iff.mp h
  obtain ⟨f, e3, e4⟩ := Option.bind_eq_some_iff.mp e2
  exact ⟨ρ1, f, e1, e3, e4⟩
theorem loop_core {J : It} {ps : List PV} {G : Hp} {A : Addr → Prop} {bo : Nat → Option (Addr × List V)} {tg : TG} {tb : TS} {D : Ends} {own : Nat → Addr} {ρ : Sto} {σ : St} {H : Hp} {fl : Fl}
    (hI : ItOk K κ G A J ps) (hg : ∀ {own ρ σ H p v ρ' Q}, R K κ G A bo own ρ σ H → Rep K κ (hid A own ρ H) v p → gt p ρ = some ρ' → (∀ own' σ', R K κ G A bo own' ρ' σ' H → Same (hid A own ρ H) (hid A own' ρ' H) → Q σ' H) → tg v σ H Q)
    (hb : SvT K κ fr tb gb) (r : R K κ G A bo own ρ σ H) (e : forL gt gb ps ρ = some fl) (k : Cont K κ fr G A bo D fl) :
    ∃ W : Nat → Nat → St → Hp → Prop, (∃ m, W 0 m σ H) ∧ ∀ i m σ H, W i m σ H →
      (J.stop i H ∧ D.nx σ H) ∨ (J.go i H ∧ ∃ N : St → Hp → Prop, (∀ σ' H', N σ' H' → ∃ m', m' < m ∧ W (i + 1) m' σ' H') ∧ ∀ x H', J.yld i H x H' → tg x σ H' fun σ2 H2 => tb { D with nx := N, ct := N, bk := D.nx } σ2 H2) := by
  refine ⟨fun i m σ H => m = ps.length - i ∧ i ≤ ps.length ∧ ∃ own ρ, R K κ G A bo own ρ σ H ∧ forL gt gb (ps.drop i) ρ = some fl, ⟨ps.length, by simp, Nat.zero_le _, own, ρ, r, by simpa using e⟩, ?_⟩
  rintro i m σ H ⟨rfl, hi, own, ρ, r, e⟩
  obtain ⟨h1, h2⟩ := hI i H r.same
  by_cases hlt : i < ps.length
  · rw [List.drop_eq_getElem_cons hlt] at e
    obtain ⟨ρ1, f, e1, e3, e4⟩ := forL_cons e
    obtain ⟨h3, h4⟩ := h1 ps[i] (List.getElem?_eq_getElem hlt)
    refine .inr ⟨h3, fun σ' H' => i + 1 ≤ ps.length ∧ ∃ own ρ, R K κ G A bo own ρ σ' H' ∧ forL gt gb (ps.drop (i + 1)) ρ = some fl, fun σ' H' ⟨q0, q⟩ => ⟨ps.length - (i + 1), by omega, rfl, q0, q⟩, fun x H' y => ?_⟩
    obtain ⟨s, q⟩ := h4 x H' y
    have r1 := r.mono s
    refine hg r1 (q (hset A own ρ) (fun b hb => r.alH hb) r.visSame) e1 fun own' σ' r2 _ => ?_
    refine hb r2 e3 ?_
    cases f with
    | nx ρ' => exact fun own2 σ2 H2 r3 => ⟨hlt, own2, ρ', r3, e4⟩
    | ct ρ' => exact fun own2 σ2 H2 r3 => ⟨hlt, own2, ρ', r3, e4⟩
    | bk ρ' => cases e4; exact k
    | rt p => cases e4; exact k
  · have hn : ps.drop i = [] := List.drop_eq_nil_of_le (by omega)
    rw [hn] at e
    cases e
    exact .inl ⟨h2 (by omega), k own σ H r⟩
theorem Cont.small {G G' : Hp} {A : Addr → Prop} {bo : Nat → Option (Addr × List V)} {D : Ends} {fl : Fl} (k : Cont K κ fr G A bo D fl) (s : Same G G') (al : ∀ b, A b → G b ≠ none) (bg : ∀ i a vs, bo i = some (a, vs) → G a = some (.lst vs)) : Cont K κ fr G' A bo D fl := by
  cases fl with
  | nx ρ' => exact fun own' σ' H' r => k own' σ' H' (r.small s al bg)
  | bk ρ' => exact fun own' σ' H' r => k own' σ' H' (r.small s al bg)
  | ct ρ' => exact fun own' σ' H' r => k own' σ' H' (r.small s al bg)
  | rt p =>
    intro v H' s' q
    refine k v H' (s.trans s') ?_
    unfold RR at q ⊢
    split
    · rename_i h
      rw [if_pos h] at q
      exact ORg q s fun b z => z
    · rename_i h
      rw [if_neg h] at q
      exact q
end
section
variable {X : Cx} {κ : Kl} {fr : Bool} {g : DenS} {e a b c tg iter : Expr} {f fa fb : Den} {ft : DenT} {pos : Pos} {fi : DenL} {gt gu : Tgt} {body : List Stmt}
theorem ds_for (hi : DI X κ tg iter fi) (hg : DG X κ tg gt) (hb : DSs X κ fr body g) (hp : PassesOwn (model X.prog X.w) X.A X.env X.xe := by exact PassesOwn.never) (hc : X.calm = true := by rfl) (hs : ∀ x, foldedSetIterable iter X.env x = pure x := by intro _; rfl) : DS X κ fr (.For tg iter body [] pos) (sFor fi gt g) := by
  obtain ⟨wi, h1, h2⟩ := hi
  obtain ⟨tt, h3, h4⟩ := hg
  obtain ⟨tb, h5, h6⟩ := hb
  refine ⟨_, ps_for hp hc h1 h3 h5 hs, fun {G A bo own ρ σ H fl D} r e k => ?_⟩
  obtain ⟨ps, e1, e2⟩ := Option.bind_eq_some_iff.mp e
  refine h2 r e1 fun J H' s hI => ?_
  have r1 := r.mono s
  exact loop_core hI h4 h6 r1.big e2 (k.small r1.gv r1.al r1.bg)
theorem ds_while (n : Nat) (hc : DT X κ c ft) (hb : DSs X κ fr body g) (hp : PassesOwn (model X.prog X.w) X.A X.env X.xe := by exact PassesOwn.never) : DS X κ fr (.While c body [] pos) (whileN ft g n) := by
  obtain ⟨tc, h1, h2⟩ := hc
  obtain ⟨tb, h3, h4⟩ := hb
  refine ⟨_, ps_while hp h1 h3, fun {G A bo own ρ σ H fl D} r e k => ?_⟩
  refine ⟨fun m σ H => ∃ own ρ, R X.K κ G A bo own ρ σ H ∧ whileN ft g m ρ = some fl, ⟨n, own, ρ, r, e⟩, ?_⟩
  rintro m σ H ⟨own, ρ, r, e⟩
  cases m with
  | zero => cases e
  | succ m =>
    unfold whileN at e
    obtain ⟨c, e1, e2⟩ := Option.bind_eq_some_iff.mp e
    refine h2 r e1 fun H1 s1 => ?_
    cases c with
    | false =>
      cases e2
      exact k own σ H1 (r.mono s1)
    | true =>
      obtain ⟨f, e3, e4⟩ := Option.bind_eq_some_iff.mp e2
      refine ⟨fun σ' H' => ∃ own ρ, R X.K κ G A bo own ρ σ' H' ∧ whileN ft g m ρ = some fl, fun σ' H' q => ⟨m, Nat.lt_succ_self m, q⟩, ?_⟩
      refine h4 (r.mono s1) e3 ?_
      cases f with
      | nx ρ' => exact fun own2 σ2 H2 r3 => ⟨own2, ρ', r3, e4⟩
      | ct ρ' => exact fun own2 σ2 H2 r3 => ⟨own2, ρ', r3, e4⟩
      | bk ρ' => cases e4; exact k
      | rt p => cases e4; exact k
end
end L2.D
set_option Elab.async false
set_option linter.all false
set_option maxRecDepth 100000
set_option maxHeartbeats 1000000
namespace L2.D
open PySem PySem.Spec PyProof.Rows
open Classical
def teS (K : PySem.W.Frag) (κ : Kl) (f : Den) : TE := fun σ H Q => ∃ G A bo own ρ p, R K κ G A bo own ρ σ H ∧ f ρ = some p ∧ ∀ v H', Same H H' → Rep K κ (hid A own ρ H') v p → Q v H'
def ttS (K : PySem.W.Frag) (κ : Kl) (f : DenT) : TT := fun σ H Q => ∃ G A bo own ρ b, R K κ G A bo own ρ σ H ∧ f ρ = some b ∧ ∀ H', Same H H' → Q b H'
theorem DE.pe {X : Cx} {κ : Kl} {e : Expr} {f : Den} (h : DE X κ e f) : PE X e (teS X.K κ f) := fun pins s σ H Q I ⟨_, _, _, _, _, _, r, e, q⟩ => let ⟨_, h1, h2⟩ := h; h1 pins s σ H Q I (h2 r e q)
theorem DT.pt {X : Cx} {κ : Kl} {e : Expr} {f : DenT} (h : DT X κ e f) : PT X e (ttS X.K κ f) := fun pins s σ H Q I ⟨_, _, _, _, _, _, r, e, q⟩ => let ⟨_, h1, h2⟩ := h; h1 pins s σ H Q I (h2 r e q)
def shN {α : Type} (f : Nat → α) (d : α) : Nat → α
  | 0 => d
  | i + 1 => f i
section
variable {K : PySem.W.Frag} {κ : Kl} {G H : Hp} {A : Addr → Prop} {bo : Nat → Option (Addr × List V)} {own : Nat → Addr} {ρ : Sto} {σ : St} {v : V} {p : PV}
theorem hset_cons : hset A (shN own 0) (.sh p :: ρ) = hset A own ρ := by
  funext b
  refine propext ⟨fun z => ?_, fun z => ?_⟩
  · rcases z with z | ⟨j, m, z1, z2⟩
    · exact .inl z
    · cases j with
      | zero => simp at z1
      | succ j => exact .inr ⟨j, m, by simpa using z1, z2⟩
  · rcases z with z | ⟨j, m, z1, z2⟩
    · exact .inl z
    · exact .inr ⟨j + 1, m, by simpa using z1, z2⟩
theorem R.cons (r : R K κ G A bo own ρ σ H) (z : Rep K κ (hid A own ρ H) v p) : R K κ G A (shN bo none) (shN own 0) (.sh p :: ρ) (some v :: σ) H where
  al := r.al
  bg := fun i a vs e => by
    cases i with
    | zero => cases e
    | succ i => exact r.bg i a vs e
  same := r.same
  sh := fun i q e => by
    rw [hid, hset_cons]
    cases i with
    | zero =>
      simp at e
      subst e
      exact ⟨v, rfl, z⟩
    | succ i => exact r.sh i q (by simpa using e)
  ow := fun i l e => by
    rw [hid, hset_cons]
    cases i with
    | zero => simp at e
    | succ i => exact r.ow i l (by simpa using e)
  inj := fun i j l m e f q => by
    cases i with
    | zero => simp at e
    | succ i =>
      cases j with
      | zero => simp at f
      | succ j => rw [r.inj i j l m (by simpa using e) (by simpa using f) q]
  bw := fun i l e => by
    rw [hid, hset_cons]
    cases i with
    | zero => simp at e
    | succ i => exact r.bw i l (by simpa using e)
  len := by rw [List.length_cons, List.length_cons, r.len]
theorem evo_comp {wi : TI} {fi : DenL} {c : DenT} {e : Den} (hi : ∀ {G A bo own ρ σ H ps Q}, R K κ G A bo own ρ σ H → fi ρ = some ps → (∀ J H', Same H H' → ItOk K κ H' (hset A own ρ) J ps → Q J H') → wi σ H Q) :
    EvO K κ (tComp wi (ttS K κ c) (teS K κ e)) (dComp fi c e) := fun {G A bo own ρ σ H p Q} r e0 q => by
  obtain ⟨ps, e1, e2⟩ := Option.bind_eq_some_iff.mp e0
  have h0 : ps.length ≤ sizeLine ∧ (compL c e ρ ps).map PV.lst = some p := by
    split at e2
    · exact ⟨by assumption, e2⟩
    · cases e2
  obtain ⟨zs, e3, rfl⟩ := Option.map_eq_some_iff.mp h0.2
  refine hi r e1 fun J H1 s1 hI => ?_
  refine ⟨fun i m acc H2 => m = ps.length - i ∧ i ≤ ps.length ∧ Same H1 H2 ∧ acc.length ≤ i ∧ ∃ out rest, Reps K κ (hid A own ρ H2) acc out ∧ compL c e ρ (ps.drop i) = some rest ∧ out ++ rest = zs,
    ⟨ps.length, by simp, Nat.zero_le _, Same.refl _, Nat.zero_le _, [], zs, .nil, by simpa using e3, rfl⟩, ?_⟩
  rintro i m acc H2 ⟨rfl, hi', s2, ha, out, rest, q1, q2, q3⟩
  obtain ⟨h1, h2⟩ := hI i H2 s2
  have s12 := s1.trans s2
  have r2 := r.mono s12
  by_cases hlt : i < ps.length
  · rw [List.drop_eq_getElem_cons hlt] at q2
    obtain ⟨h3, h4⟩ := h1 ps[i] (List.getElem?_eq_getElem hlt)
    refine .inr ⟨h3, by omega, fun y H3 hy => ?_⟩
    obtain ⟨s3, q4⟩ := h4 y H3 hy
    have rep := q4 (hset A own ρ) (fun b hb => r2.alH hb) (hide_same s2)
    have r3 := (r2.mono s3).cons rep
    unfold compL at q2
    obtain ⟨b, e4, e5⟩ := Option.bind_eq_some_iff.mp q2
    refine ⟨_, _, _, _, _, _, r3, e4, fun H4 s4 => ?_⟩
    have r4 := r3.mono s4
    cases b with
    | true =>
      dsimp only
      rw [if_pos rfl] at e5 ⊢
      obtain ⟨z, e6, e7⟩ := Option.bind_eq_some_iff.mp e5
      obtain ⟨ws, e8, rfl⟩ := Option.map_eq_some_iff.mp e7
      refine ⟨_, _, _, _, _, _, r4, e6, fun v H5 s5 q5 => ?_⟩
      rw [hid, hset_cons] at q5
      refine ⟨ps.length - (i + 1), by omega, rfl, hlt, ((s2.trans s3).trans s4).trans s5, by simp; omega, out ++ [z], ws, ?_, e8, by rw [← q3]; simp⟩
      exact (q1.mono (hide_same ((s3.trans s4).trans s5))).append (.cons q5 .nil)
    | false =>
      dsimp only
      rw [if_neg Bool.false_ne_true] at e5 ⊢
      exact ⟨ps.length - (i + 1), by omega, rfl, hlt, (s2.trans s3).trans s4, by omega, out, rest, q1.mono (hide_same (s3.trans s4)), e5, q3⟩
  · have hn : ps.drop i = [] := List.drop_eq_nil_of_le (by omega)
    rw [hn] at q2
    cases q2
    rw [List.append_nil] at q3
    subst q3
    refine .inl ⟨h2 (by omega), fun p hp => q _ _ (s12.trans (same_upd hp)) ?_⟩
    obtain ⟨a, ws, l, w1, w2, w3, w4⟩ := r2.newO hp q1
    refine ⟨a, ws, l, w1, w2, ?_, w4⟩
    cases w1
    exact s12.free hp
end
section
variable {X : Cx} {κ : Kl} {fr : Bool} {sc : Scope} {x : Str} {px pos : Pos} {elt iter c : Expr} {fi : DenL} {ft : DenT} {f : Den}
theorem do_comp (hi : DIB X κ (.Name x px) iter fi) (osc : Scope) (N0 ys : List Str) (he : ∀ ex C s H, DE (X.blk sc x ys ex C s H) κ elt f) (hosc : X.env.scope = osc := by rfl) (hN0 : X.N = N0 := by rfl) (hcs : compOk osc N0 sc x ys = true := by decide +kernel) (hc : X.calm = true := by rfl)
    (hs : ∀ x, foldedSetIterable iter X.env x = pure x := by intro _; rfl) : DO X κ (.ListComp elt [⟨.Name x px, iter, [], 0⟩] sc pos) (dComp fi tTrue f) := by
  obtain ⟨wi, h1, h2⟩ := hi
  refine ⟨_, pe_comp h1 ys (tt := ttS X.K κ tTrue) (te := teS X.K κ f) (fun ex C s H => ?_) (fun ex C s H => (he ex C s H).pe) (by rw [hosc, hN0]; exact hcs) hc hs, evo_comp h2⟩
  intro pins s σ H Q I ⟨_, _, _, _, _, _, r, e, q⟩
  cases e
  exact pifs_nil pins s σ H Q I (q _ (Same.refl _))
theorem do_compIf (hi : DIB X κ (.Name x px) iter fi) (osc : Scope) (N0 ys : List Str) (ht : ∀ ex C s H, DT (X.blk sc x ys ex C s H) κ c ft) (he : ∀ ex C s H, DE (X.blk sc x ys ex C s H) κ elt f) (hosc : X.env.scope = osc := by rfl) (hN0 : X.N = N0 := by rfl) (hcs : compOk osc N0 sc x ys = true := by decide +kernel) (hc : X.calm = true := by rfl)
    (hs : ∀ x, foldedSetIterable iter X.env x = pure x := by intro _; rfl) : DO X κ (.ListComp elt [⟨.Name x px, iter, [c], 0⟩] sc pos) (dComp fi ft f) := by
  obtain ⟨wi, h1, h2⟩ := hi
  exact ⟨_, pe_comp h1 ys (tt := ttS X.K κ ft) (te := teS X.K κ f) (fun ex C s H => pifs_one (ht ex C s H).pt) (fun ex C s H => (he ex C s H).pe) (by rw [hosc, hN0]; exact hcs) hc hs, evo_comp h2⟩
end
def spD (K : PySem.W.Frag) (κ : Kl) (fr : Bool) (F : List PV → Option PV) : Sp := fun vs H Q _ => ∃ (A : Addr → Prop) (ps : List PV) (p : PV), (∀ b, A b → H b ≠ none) ∧ Reps K κ (hide A H) vs ps ∧ F ps = some p ∧ ∀ v H', Same H H' → RR fr K κ A H H' v p → Q v H'
section
variable {X : Cx} {κ : Kl} {fr : Bool} {k : Nat} {f : Addr} {fd : FuncData} {ps : List Str} {F : List PV → Option PV} {x : Str} {p pos : Pos} {e : Expr} {es : List Expr} {fs : DenL}
theorem de_call (FO : FnOk X.prog X.w X.K X.mg X.base CX0 k f fd ps (spD X.K κ false F)) (hr : Room k X.A) (hm : X.mg x = some (.ref f)) (hk : PySem.W.keepIn X.K (.ref f) = true) (hb : Binds X.K fd ps []) (ha : DA X κ (e :: es) fs) (hg : Gl X x := by rfl) (hdb : (x == ("__debug__" : Str)) = false := by decide)
    (he : starEach (e :: es) X.env = (false, eval e X.env) :: starEach es X.env := by rfl) (hpl : (backTo pos (starEach es X.env)).any (·.1) = false := by rfl) : DE X κ (.Call (.Name x p) (e :: es) [] pos) (dCall F fs) := by
  obtain ⟨ta, h1, h2⟩ := ha
  refine ⟨_, pe_call FO hr hg hm hk hb .nil pass0 h1 hdb he hpl, fun {G A bo own ρ σ H p Q} r e q => ?_⟩
  obtain ⟨xs, e1, e2⟩ := Option.bind_eq_some_iff.mp e
  refine h2 r e1 fun vs H1 s1 z1 => ?_
  rw [List.append_nil]
  exact ⟨hset A own ρ, xs, p, fun b hb => (r.mono s1).alH hb, z1, e2, fun v H' s z => q v H' (s1.trans s) z⟩
theorem do_call (FO : FnOk X.prog X.w X.K X.mg X.base CX0 k f fd ps (spD X.K κ true F)) (hr : Room k X.A) (hm : X.mg x = some (.ref f)) (hk : PySem.W.keepIn X.K (.ref f) = true) (hb : Binds X.K fd ps []) (ha : DA X κ (e :: es) fs) (hg : Gl X x := by rfl) (hdb : (x == ("__debug__" : Str)) = false := by decide)
    (he : starEach (e :: es) X.env = (false, eval e X.env) :: starEach es X.env := by rfl) (hpl : (backTo pos (starEach es X.env)).any (·.1) = false := by rfl) : DO X κ (.Call (.Name x p) (e :: es) [] pos) (dCall F fs) := by
  obtain ⟨ta, h1, h2⟩ := ha
  refine ⟨_, pe_call FO hr hg hm hk hb .nil pass0 h1 hdb he hpl, fun {G A bo own ρ σ H p Q} r e q => ?_⟩
  obtain ⟨xs, e1, e2⟩ := Option.bind_eq_some_iff.mp e
  refine h2 r e1 fun vs H1 s1 z1 => ?_
  rw [List.append_nil]
  exact ⟨hset A own ρ, xs, p, fun b hb => (r.mono s1).alH hb, z1, e2, fun v H' s z => q v H' (s1.trans s) (ORg z s1 fun b w => w)⟩
theorem de_callF (FO : FnOk X.prog X.w X.K X.mg X.base CX0 k f fd ps (spD X.K κ false F)) (hr : Room k X.A) (hm : X.mg x = some (.ref f)) (hk : PySem.W.keepIn X.K (.ref f) = true) (hb : Binds X.K fd ps []) (ha : DAB X κ (e :: es) fs) (hg : Gl X x := by rfl) (hdb : (x == ("__debug__" : Str)) = false := by decide)
    (he : starEach (e :: es) X.env = (false, eval e X.env) :: starEach es X.env := by rfl) (hpl : (backTo pos (starEach es X.env)).any (·.1) = false := by rfl) : DE X κ (.Call (.Name x p) (e :: es) [] pos) (dCallF F fs) := by
  obtain ⟨ta, h1, h2⟩ := ha
  refine ⟨_, pe_call FO hr hg hm hk hb .nil pass0 h1 hdb he hpl, fun {G A bo own ρ σ H p Q} r e q => ?_⟩
  obtain ⟨xs, e1, e2⟩ := Option.bind_eq_some_iff.mp e
  obtain ⟨p', e3, e4⟩ := Option.bind_eq_some_iff.mp e2
  obtain ⟨h3, rfl⟩ := ite_some e4
  refine h2 r e1 fun vs H1 s1 z1 => ?_
  rw [List.append_nil]
  have z2 : Reps X.K κ (hide (fun _ => False) H1) vs xs := (z1.full hide_full).mono fun b o w => by rw [hide_of (fun z => z)]; exact w
  exact ⟨fun _ => False, xs, p', fun b hb => hb.elim, z2, e3, fun v H' s z => q v H' (s1.trans s) (Rep.flat h3 z)⟩
end
section
variable {P : Program} {w : World} {K : PySem.W.Frag} {mg : Str → Option Value} {base : Heap} {κ : Kl} {fr : Bool}
theorem startP_get {n : Nat} {ps : List PV} {i : Nat} {s : Slot} (h : (startP n ps)[i]? = some s) : (∃ p, ps[i]? = some p ∧ s = .sh p) ∨ s = .un := by
  unfold startP at h
  rw [List.getElem?_append] at h
  split at h
  · rw [List.getElem?_map] at h
    obtain ⟨p, h1, h2⟩ := Option.map_eq_some_iff.mp h
    exact .inl ⟨p, h1, h2.symm⟩
  · rw [List.getElem?_replicate] at h
    split at h
    · exact .inr (Option.some.inj h).symm
    · cases h
theorem R.entry {A : Addr → Prop} {H : Hp} {N : List Str} {vs : List V} {ps : List PV} (al : ∀ b, A b → H b ≠ none) (h : Reps K κ (hide A H) vs ps) : R K κ H A (fun _ => none) (fun _ => 0) (startP N.length ps) (start N vs) H := by
  have no : ∀ {i : Nat} {l : Cn}, (startP N.length ps)[i]? ≠ some (.own l) := fun {i l} e => by
    rcases startP_get e with ⟨p, _, z⟩ | z <;> cases z
  have he : hset A (fun _ => 0) (startP N.length ps) = A := by
    funext b
    refine propext ⟨fun z => ?_, .inl⟩
    rcases z with z | ⟨j, m, z1, z2⟩
    · exact z
    · exact absurd z1 no
  refine ⟨al, fun i a vs e => (by cases e), fun _ _ z => z, fun i p e => ?_, fun i l e => absurd e no, fun i j l m e => absurd e no, fun i l e => ?_, ?_⟩
  · rcases startP_get e with ⟨p', h1, z⟩ | z
    · cases z
      obtain ⟨v, h2, h3⟩ := h.get h1
      refine ⟨v, ?_, by rw [hid, he]; exact h3⟩
      unfold start
      rw [List.getElem?_append_left (by rw [List.length_map]; exact (List.getElem?_eq_some_iff.mp h2).1), List.getElem?_map, h2]
      rfl
    · cases z
  · rcases startP_get e with ⟨p, _, z⟩ | z <;> cases z
  · unfold start startP
    simp [h.length]
theorem fun_den {x qual : Str} {st : Stmt} {f : Addr} {fd : FuncData} {N ps : List Str} {k : Nat} {g : DenS} (F : Fun K x qual st f fd) (S : FnScope N ps (defScope st))
    (hb : ∀ (cdv : Value) (A : Around) (outer : List Env) (s : Shared) (H : Hp) (E : XK), Room k (A.deeper (envOfC qual (defScope st) s.heap.objs.size f cdv)) → DSs (cxOf CX0 P w K mg base N qual (defScope st) f cdv A outer s H E).nox κ fr (defBody st) g) :
    FnOk P w K mg base CX0 (k + 1) f fd ps (spD K κ fr (fn fr N.length ps.length g)) := by
  refine F.ok S (fun vs H Q E h => ?_) (fun cdv A outer s H vs Q E hr h => ?_)
  · obtain ⟨A, qs, p, _, h1, h2, _⟩ := h
    unfold fn at h2
    split at h2
    · rw [h1.length]
      assumption
    · cases h2
  · obtain ⟨A', qs, p, al, h1, h2, q⟩ := h
    obtain ⟨ts, a1, a2⟩ := hb cdv A outer s H E hr
    refine ⟨ts, a1, ?_⟩
    have h3 : (g (startP N.length qs)).bind (endP fr) = some p := by
      unfold fn at h2
      split at h2
      · exact h2
      · cases h2
    obtain ⟨fl, e1, e2⟩ := Option.bind_eq_some_iff.mp h3
    refine a2 (R.entry al h1) e1 ?_
    cases fl with
    | rt p' => cases e2; exact q
    | nx ρ' =>
      cases fr with
      | true => cases e2
      | false =>
        cases e2
        exact fun own' σ' H' r' => q _ _ r'.same .non
    | bk ρ' => cases e2
    | ct ρ' => cases e2
end
end L2.D
set_option Elab.async false
set_option linter.all false
set_option maxRecDepth 100000
set_option maxHeartbeats 1000000
namespace L2.D
open PySem PySem.Spec PyProof.Rows PySem.SeqAt
open Classical
section
variable {X : Cx} {pins : List (Addr × Obj)} {σ : St} {H : Hp} {s : Shared} {κ : Kl}
theorem eqLs_len {f : PV → PV → Option Bool} : ∀ {l m : List PV} {es : List Bool}, eqLs f l m = some es → l.length = m.length → es.length = l.length
  | [], [], _, h, _ => by cases h; rfl
  | a :: l, b :: m, es, h, e => by
    unfold eqLs at h
    obtain ⟨c, h1, h2⟩ := Option.bind_eq_some_iff.mp h
    obtain ⟨cs, h3, rfl⟩ := Option.map_eq_some_iff.mp h2
    simp [eqLs_len h3 (by simpa using e)]
theorem eqLs_get {f : PV → PV → Option Bool} : ∀ {l m : List PV} {es : List Bool} {j : Nat} {p q : PV}, eqLs f l m = some es → l[j]? = some p → m[j]? = some q → ∃ e, es[j]? = some e ∧ f p q = some e
  | [], _, _, _, _, _, _, hp, _ => by simp at hp
  | _ :: _, [], _, _, _, _, _, _, hq => by simp at hq
  | a :: l, b :: m, es, 0, p, q, h, hp, hq => by
    unfold eqLs at h
    obtain ⟨c, h1, h2⟩ := Option.bind_eq_some_iff.mp h
    obtain ⟨cs, h3, rfl⟩ := Option.map_eq_some_iff.mp h2
    simp at hp hq
    subst hp hq
    exact ⟨c, rfl, h1⟩
  | a :: l, b :: m, es, j + 1, p, q, h, hp, hq => by
    unfold eqLs at h
    obtain ⟨c, h1, h2⟩ := Option.bind_eq_some_iff.mp h
    obtain ⟨cs, h3, rfl⟩ := Option.map_eq_some_iff.mp h2
    obtain ⟨e, h4, h5⟩ := eqLs_get (j := j) h3 (by simpa using hp) (by simpa using hq)
    exact ⟨e, by simpa using h4, h5⟩
theorem eqI_refl : ∀ (n : Nat) (p : PV) (b : Bool), eqI n p p = some b → b = true := by
  intro n
  induction n with
  | zero =>
    intro p b h
    unfold eqI at h
    cases p <;> simp [flat, eqF] at h <;> exact h
  | succ n ih =>
    have key : ∀ (l : List PV) (es : List Bool), eqLs (eqI n) l l = some es → es.all id = true := by
      intro l
      induction l with
      | nil => intro es h; cases h; rfl
      | cons a l ihl =>
        intro es h
        unfold eqLs at h
        obtain ⟨c, h1, h2⟩ := Option.bind_eq_some_iff.mp h
        obtain ⟨cs, h3, rfl⟩ := Option.map_eq_some_iff.mp h2
        simp [ih _ _ h1, ihl _ h3]
    intro p b h
    cases p with
    | lst l =>
      unfold eqI eqL at h
      rw [if_pos rfl] at h
      obtain ⟨es, h1, rfl⟩ := Option.map_eq_some_iff.mp h
      exact key l es h1
    | tup l =>
      unfold eqI eqL at h
      rw [if_pos rfl, if_pos rfl] at h
      obtain ⟨es, h1, rfl⟩ := Option.map_eq_some_iff.mp h
      exact key l es h1
    | _ => simp [eqI, flat, eqF] at h <;> exact h
theorem not_both (I : Inv X pins σ H s) {a : Addr} {xs ys : List V} (h : SqL X.K H a xs) (h' : SqT X.K H a ys) : False := by
  obtain ⟨_, _, p1, _⟩ := I.list h
  obtain ⟨_, _, p2, _⟩ := I.tuple h'
  obtain ⟨o, e1, c1, _⟩ := p1.isList
  obtain ⟨o2, e2, c2, _⟩ := p2
  rw [e1] at e2
  cases e2
  rw [c1] at c2
  injection c2 with z
  exact absurd z (by decide)
mutual
theorem Rep.inj (I : Inv X pins σ H s) : ∀ {v : V} {p q : PV}, Rep X.K κ H v p → Rep X.K κ H v q → (∀ n b, eqI n p q = some b → p = q)
  | _, _, _, .non, .non => fun _ _ _ => rfl
  | _, _, _, .bl _, .bl _ => fun _ _ _ => rfl
  | _, _, _, .int _, .int _ => fun _ _ _ => rfl
  | _, _, _, .str _, .str _ => fun _ _ _ => rfl
  | _, _, _, .lst h r, q => fun n b e => by
    cases q with
    | lst h' r' =>
      have := I.list_inj h.sq h'.sq
      subst this
      cases n with
      | zero => simp [eqI, flat] at e
      | succ n =>
        unfold eqI eqL at e
        split at e
        · obtain ⟨es, e1, _⟩ := Option.map_eq_some_iff.mp e
          rw [Reps.inj I r r' n es e1]
        · rename_i hl
          exact absurd (r.length.symm.trans r'.length) hl
    | tup h' _ => exact (not_both I h.sq h').elim
    | ins _ _ _ => cases n <;> simp [eqI, flat] at e
  | _, _, _, .tup h r, q => fun n b e => by
    cases q with
    | lst h' _ => exact (not_both I h'.sq h).elim
    | tup h' r' =>
      have := I.tuple_inj h h'
      subst this
      cases n with
      | zero => simp [eqI, flat] at e
      | succ n =>
        unfold eqI eqL at e
        have hl := r.length.symm.trans r'.length
        rw [if_pos hl, if_pos hl] at e
        obtain ⟨es, e1, _⟩ := Option.map_eq_some_iff.mp e
        rw [Reps.inj I r r' n es e1]
    | ins _ _ _ => cases n <;> simp [eqI, flat] at e
  | _, _, _, .ins _ _ _, q => fun n b e => by
    cases n <;> cases q <;> simp [eqI, flat] at e
theorem Reps.inj (I : Inv X pins σ H s) : ∀ {vs : List V} {l m : List PV}, Reps X.K κ H vs l → Reps X.K κ H vs m → ∀ n es, eqLs (eqI n) l m = some es → l = m
  | _, _, _, .nil, .nil => fun _ _ _ => rfl
  | _, _, _, .cons r t, .cons r' t' => fun n es e => by
    unfold eqLs at e
    obtain ⟨c, h1, h2⟩ := Option.bind_eq_some_iff.mp e
    obtain ⟨cs, h3, rfl⟩ := Option.map_eq_some_iff.mp h2
    rw [Rep.inj I r r' n c h1, Reps.inj I t t' n cs h3]
end
theorem all_getD {es : List Bool} {n : Nat} (h : es.length = n) : ((List.range n).all fun j => es.getD j false) = es.all id := by
  subst h
  exact range_all es
theorem rcAt_tup {A : Around} {a b : Addr} {xs ys : List V} (I : Inv X pins σ H s) (ha : SqT X.K H a xs) (hb : SqT X.K H b ys) (hl : xs.length = ys.length) (hu : A.units < cLine) (q : Nat → Bool)
    (hq : ∀ (j : Nat) x y u v, xs[j]? = some x → ys[j]? = some y → RelV x u → RelV y v → EqAt A.in1 s u v (q j)) : RcAt A s (.ref a) (.ref b) ((List.range xs.length).all q) := by
  obtain ⟨its, r1, p1, z1⟩ := I.tuple ha
  obtain ⟨its2, r2, p2, z2⟩ := I.tuple hb
  have l1 := r1.length
  have l2 := r2.length
  have := RcAt.tuples (A := A) (s := s) (e := q) (l := a) (b := b) p1 p2 hu fun j h1 h2 => ?_
  · rw [List.size_toArray, List.size_toArray, ← l1, ← l2, ← hl, Nat.min_self, beq_self_eq_true, Bool.and_true] at this
    exact this
  · rw [List.size_toArray] at h1 h2
    obtain ⟨x, hx⟩ : ∃ x, xs[j]? = some x := ⟨xs[j], List.getElem?_eq_getElem (by omega)⟩
    obtain ⟨y, hy⟩ : ∃ y, ys[j]? = some y := ⟨ys[j], List.getElem?_eq_getElem (by omega)⟩
    obtain ⟨u, e1, ru⟩ := r1.get hx
    obtain ⟨v, e2, rv⟩ := r2.get hy
    have f1 : its.toArray[j] = u := by
      have := (List.getElem?_eq_some_iff.mp e1).2
      simpa using this
    have f2 : its2.toArray[j] = v := by
      have := (List.getElem?_eq_some_iff.mp e2).2
      simpa using this
    rw [f1, f2]
    exact hq j x y u v hx hy ru rv
theorem flat_eq {A : Around} {v w : V} {u u' : Value} {p q : PV} (f : (flat p && flat q) = true) (r1 : Rep X.K κ H v p) (r2 : Rep X.K κ H w q) (e1 : RelV v u) (e2 : RelV w u') : EqAt A s u u' (eqF p q) := by
  rw [Bool.and_eq_true] at f
  have hv : flatV v = true := by cases r1 <;> simp_all [flat, flatV]
  have hw : flatV w = true := by cases r2 <;> simp_all [flat, flatV]
  have : eqF p q = eqV v w := by cases r1 <;> cases r2 <;> simp_all [flat, eqF, eqV]
  rw [this]
  exact eqAt_V e1 e2 hv hw
theorem eqAt_rep (I : Inv X pins σ H s) : ∀ (n : Nat) {p q : PV} {v w : V} {u u' : Value} {A : Around} {b : Bool}, A.units + n < cLine → Rep X.K κ H v p → Rep X.K κ H w q → RelV v u → RelV w u' → eqI n p q = some b → EqAt A s u u' b := by
  intro n
  induction n with
  | zero =>
    intro p q v w u u' A b hu r1 r2 e1 e2 h
    unfold eqI at h
    obtain ⟨h1, rfl⟩ := ite_some h
    exact flat_eq h1 r1 r2 e1 e2
  | succ n ih =>
    intro p q v w u u' A b hu r1 r2 e1 e2 h
    have hu1 : A.in1.units + n < cLine := by
      have : A.in1.units = A.units + 1 := rfl
      omega
    by_cases hf : (flat p && flat q) = true
    · have : eqI (n + 1) p q = some (eqF p q) := by
        cases p <;> cases q <;> simp_all [eqI, flat]
      rw [this] at h
      cases h
      exact flat_eq hf r1 r2 e1 e2
    · by_cases hvw : v = w
      · subst hvw
        have hpq := Rep.inj I r1 r2 _ _ h
        subst hpq
        have hb := eqI_refl _ _ _ h
        subst hb
        cases r1 with
        | lst _ _ => cases e1; cases e2; exact EqAt.same _
        | tup _ _ => cases e1; cases e2; exact EqAt.same _
        | ins _ _ _ => cases e1; cases e2; exact EqAt.same _
        | _ => simp [flat] at hf
      · have hr : ∀ {xs ys : List V} {l m : List PV} {es : List Bool}, Reps X.K κ H xs l → Reps X.K κ H ys m → eqLs (eqI n) l m = some es → ∀ (j : Nat) x y u v, xs[j]? = some x → ys[j]? = some y → RelV x u → RelV y v → EqAt A.in1 s u v (es.getD j false) := by
          intro xs ys l m es w1 w2 he j x y u v hx hy ru rv
          obtain ⟨p1, g1, g2⟩ := w1.getV hx
          obtain ⟨p2, g3, g4⟩ := w2.getV hy
          obtain ⟨e, g5, g6⟩ := eqLs_get he g1 g3
          rw [List.getD_eq_getElem?_getD, g5]
          exact ih hu1 g2 g4 ru rv g6
        cases r1 with
        | @lst a vs l h1 w1 =>
          cases q with
          | lst m =>
            cases r2 with
            | @lst b' vs' _ h2 w2 =>
              cases e1
              cases e2
              refine EqAt.of_refs (fun z => hvw (by rw [z])) ?_
              unfold eqI eqL at h
              split at h
              · rename_i hl
                obtain ⟨es, g1, rfl⟩ := Option.map_eq_some_iff.mp h
                have g2 := eqLs_len g1 hl
                have := rcAt_seq I h1.sq h2.sq (A := A) (by omega) (fun j => es.getD j false) (hr w1 w2 g1)
                rw [decide_eq_true (by rw [w1.length, w2.length]; exact hl), Bool.true_and, all_getD (by rw [w1.length]; exact g2)] at this
                exact this
              · rename_i hl
                cases h
                obtain ⟨its, k1, p1, z1⟩ := I.list h1.sq
                obtain ⟨its2, k2, p2, z2⟩ := I.list h2.sq
                have l1 := k1.length
                have l2 := k2.length
                have l3 := w1.length
                have l4 := w2.length
                exact RcAt.lists_lengths p1.isList p2.isList (by rw [List.size_toArray, List.size_toArray]; simp; omega) (by omega)
          | _ => cases r2 <;> simp [eqI, flat] at h
        | @tup a vs l h1 w1 =>
          cases q with
          | tup m =>
            cases r2 with
            | @tup b' vs' _ h2 w2 =>
              cases e1
              cases e2
              refine EqAt.of_refs (fun z => hvw (by rw [z])) ?_
              unfold eqI eqL at h
              split at h
              · rename_i hl
                try rw [if_pos hl] at h
                obtain ⟨es, g1, rfl⟩ := Option.map_eq_some_iff.mp h
                have g2 := eqLs_len g1 hl
                have := rcAt_tup I h1 h2 (A := A) (by rw [w1.length, w2.length]; exact hl) (by omega) (fun j => es.getD j false) (hr w1 w2 g1)
                rw [all_getD (by rw [w1.length]; exact g2)] at this
                exact this
              · cases h
          | _ => cases r2 <;> simp [eqI, flat] at h
        | ins _ _ _ => cases q <;> simp [eqI, flat] at h
        | _ => cases r2 <;> simp [eqI, flat] at h hf
end
end L2.D
set_option Elab.async false
set_option linter.all false
set_option maxRecDepth 100000
set_option maxHeartbeats 1000000
namespace L2.D
open PySem PySem.Spec PyProof.Rows PySem.SeqAt
open Classical
section
variable {X : Cx} {κ : Kl} {fr : Bool} {e a b c : Expr} {f fa fb fc : Den} {p pos : Pos}
def rEqR (K : PySem.W.Frag) (κ : Kl) (neg : Bool) : R2 := fun x y H Q => ∃ p q b, Rep K κ H x p ∧ Rep K κ H y q ∧ eqT p q = some b ∧ Q (.bl (if neg then !b else b)) H
theorem rc_lists {pins : List (Addr × Obj)} {σ : St} {H : Hp} {s : Shared} {A : Around} {a b : Addr} {vs ws : List V} {l m : List PV} {r : Bool} (I : Inv X pins σ H s) (hu : A.units + 20 < cLine) (h1 : SL X.K H a vs) (w1 : Reps X.K κ H vs l) (h2 : SL X.K H b ws) (w2 : Reps X.K κ H ws m)
    (h : eqI 20 (.lst l) (.lst m) = some r) : RcAt A s (.ref a) (.ref b) r ∧ RcNeAt A s (.ref a) (.ref b) (!r) := by
  unfold eqI eqL at h
  have hu1 : A.in1.units + 19 < cLine := by
    have : A.in1.units = A.units + 1 := rfl
    omega
  split at h
  · rename_i hl
    obtain ⟨es, g1, rfl⟩ := Option.map_eq_some_iff.mp h
    have g2 := eqLs_len g1 hl
    have hr : ∀ (j : Nat) x y u v, vs[j]? = some x → ws[j]? = some y → RelV x u → RelV y v → EqAt A.in1 s u v (es.getD j false) := by
      intro j x y u v hx hy ru rv
      obtain ⟨p1, k1, k2⟩ := w1.getV hx
      obtain ⟨p2, k3, k4⟩ := w2.getV hy
      obtain ⟨e, k5, k6⟩ := eqLs_get g1 k1 k3
      rw [List.getD_eq_getElem?_getD, k5]
      exact eqAt_rep I 19 hu1 k2 k4 ru rv k6
    have z1 := rcAt_seq I h1.sq h2.sq (A := A) (by omega) (fun j => es.getD j false) hr
    have z2 := rcNeAt_seq I h1.sq h2.sq (A := A) (by omega) (fun j => es.getD j false) hr
    rw [decide_eq_true (by rw [w1.length, w2.length]; exact hl), Bool.true_and, all_getD (by rw [w1.length]; exact g2)] at z1 z2
    exact ⟨z1, z2⟩
  · rename_i hl
    cases h
    obtain ⟨its, k1, p1, z1⟩ := I.list h1.sq
    obtain ⟨its2, k2, p2, z2⟩ := I.list h2.sq
    have l1 := k1.length
    have l2 := k2.length
    have l3 := w1.length
    have l4 := w2.length
    exact ⟨RcAt.lists_lengths p1.isList p2.isList (by rw [List.size_toArray, List.size_toArray]; simp; omega) (by omega), RcNeAt.lists_lengths p1.isList p2.isList (by rw [List.size_toArray, List.size_toArray]; simp; omega) (by omega)⟩
theorem rc_tups {pins : List (Addr × Obj)} {σ : St} {H : Hp} {s : Shared} {A : Around} {a b : Addr} {vs ws : List V} {l m : List PV} {r : Bool} (I : Inv X pins σ H s) (hu : A.units + 20 < cLine) (h1 : SqT X.K H a vs) (w1 : Reps X.K κ H vs l) (h2 : SqT X.K H b ws) (w2 : Reps X.K κ H ws m)
    (h : eqI 20 (.tup l) (.tup m) = some r) : RcAt A s (.ref a) (.ref b) r := by
  unfold eqI eqL at h
  have hu1 : A.in1.units + 19 < cLine := by
    have : A.in1.units = A.units + 1 := rfl
    omega
  split at h
  · rename_i hl
    try rw [if_pos hl] at h
    obtain ⟨es, g1, rfl⟩ := Option.map_eq_some_iff.mp h
    have g2 := eqLs_len g1 hl
    have hr : ∀ (j : Nat) x y u v, vs[j]? = some x → ws[j]? = some y → RelV x u → RelV y v → EqAt A.in1 s u v (es.getD j false) := by
      intro j x y u v hx hy ru rv
      obtain ⟨p1, k1, k2⟩ := w1.getV hx
      obtain ⟨p2, k3, k4⟩ := w2.getV hy
      obtain ⟨e, k5, k6⟩ := eqLs_get g1 k1 k3
      rw [List.getD_eq_getElem?_getD, k5]
      exact eqAt_rep I 19 hu1 k2 k4 ru rv k6
    have z1 := rcAt_tup I h1 h2 (A := A) (by rw [w1.length, w2.length]; exact hl) (by omega) (fun j => es.getD j false) hr
    rw [all_getD (by rw [w1.length]; exact g2)] at z1
    exact z1
  · cases h
theorem op_eqR (hu : X.A.units + 20 < cLine) : OpR X (compareOp .Eq) (rEqR X.K κ false) := by
  intro pins s σ H x y v u Q I rx ry h
  obtain ⟨p, q, r, r1, r2, e, k⟩ := h
  cases p <;> cases q <;> first | cases e | skip
  all_goals first
    | (cases r1 with
      | lst h1 w1 => cases r2 with
        | lst h2 w2 =>
          cases rx; cases ry
          exact (rc_lists I hu h1 w1 h2 w2 e).1 _ _ _ _ ⟨.bl r, H, I, rfl, k⟩)
    | (cases r1 with
      | tup h1 w1 => cases r2 with
        | tup h2 w2 =>
          cases rx; cases ry
          exact rc_tups I hu h1 w1 h2 w2 e _ _ _ _ ⟨.bl r, H, I, rfl, k⟩)
    | (cases r1; cases r2; exact op_eq pins s σ H _ _ v u Q I rx ry ⟨rfl, by simpa using k⟩)
theorem op_neR (hu : X.A.units + 20 < cLine) : OpR X (compareOp .NotEq) (fun x y H Q => ∃ p q b, Rep X.K κ H x p ∧ Rep X.K κ H y q ∧ (∀ l, p ≠ .tup l) ∧ eqT p q = some b ∧ Q (.bl (!b)) H) := by
  intro pins s σ H x y v u Q I rx ry h
  obtain ⟨p, q, r, r1, r2, nt, e, k⟩ := h
  cases p <;> cases q <;> first | cases e | skip
  all_goals first
    | exact absurd rfl (nt _)
    | (cases r1 with
      | lst h1 w1 => cases r2 with
        | lst h2 w2 =>
          cases rx; cases ry
          exact (rc_lists I hu h1 w1 h2 w2 e).2 _ _ _ _ ⟨.bl (!r), H, I, rfl, k⟩)
    | (cases r1; cases r2; exact op_ne pins s σ H _ _ v u Q I rx ry ⟨rfl, by simpa using k⟩)
theorem hu20 {A : Around} (h : A.units + 64 < cLine) : A.units + 20 < cLine := by omega
theorem dc_eq {k : Nat} (hr : Room k X.A) (ha : DB X κ a fa) (hb : DB X κ b fb) : DC X κ .Eq a b (dBin gEq fa fb) := by
  obtain ⟨ta, h1, h2⟩ := ha
  obtain ⟨tb, h3, h4⟩ := hb
  refine ⟨_, _, _, op_eqR (κ := κ) (hu20 hr.units), h1, h3, fun {G A bo own ρ σ H p Q} r e q => ?_⟩
  refine evb2 h2 h4 r e fun x y p1 p2 H' s r' b1 b2 e' => ?_
  obtain ⟨b, e1, rfl⟩ := Option.map_eq_some_iff.mp e'
  exact ⟨p1, p2, b, b1.full hide_full, b2.full hide_full, e1, q _ H' s (.bl _)⟩
theorem dc_ne {k : Nat} (hr : Room k X.A) (ha : DB X κ a fa) (hb : DB X κ b fb) : DC X κ .NotEq a b (dBin gNe' fa fb) := by
  obtain ⟨ta, h1, h2⟩ := ha
  obtain ⟨tb, h3, h4⟩ := hb
  refine ⟨_, _, _, op_neR (κ := κ) (hu20 hr.units), h1, h3, fun {G A bo own ρ σ H p Q} r e q => ?_⟩
  refine evb2 h2 h4 r e fun x y p1 p2 H' s r' b1 b2 e' => ?_
  have nt : ∀ l, p1 ≠ .tup l := fun l z => by rw [z] at e'; cases e'
  have e2 : gNe p1 p2 = some p := by cases p1 <;> first | exact e' | exact absurd rfl (nt _)
  obtain ⟨b, e1, rfl⟩ := Option.map_eq_some_iff.mp e2
  exact ⟨p1, p2, b, b1.full hide_full, b2.full hide_full, nt, e1, q _ H' s (.bl _)⟩
theorem non_iff {K : PySem.W.Frag} {hH H : Hp} {x : V} {p : PV} (h : BR K κ hH H x p) : gIsN p = some (.bl (decide (x = .non))) := by
  rcases h with h | ⟨a, vs, l, rfl, rfl, _⟩
  · cases h <;> simp [gIsN]
  · simp [gIsN]
theorem dc_isN {j pos'} (ha : DB X κ a fa) : DC X κ .Is a (.Constant .none j pos') (dUn gIsN fa) := by
  obtain ⟨ta, h1, h2⟩ := ha
  refine ⟨_, _, _, op_isN, h1, pe_non, fun {G A bo own ρ σ H p Q} r e q => ?_⟩
  obtain ⟨p1, e1, e2⟩ := Option.bind_eq_some_iff.mp e
  refine h2 r e1 fun x H1 s1 b1 => ?_
  rw [non_iff b1] at e2
  cases e2
  exact ⟨rfl, q _ H1 s1 (.bl _)⟩
theorem flats {K : PySem.W.Frag} {H : Hp} : ∀ {vs : List V} {l : List PV}, Reps K κ H vs l → l.all flat = true → vs.all flatV = true
  | _, _, .nil, _ => rfl
  | _, _, .cons r t, h => by
    rw [List.all_cons, Bool.and_eq_true] at h ⊢
    refine ⟨?_, flats t h.2⟩
    cases r <;> simp_all [flat, flatV]
theorem eqF_V {K : PySem.W.Frag} {H H' : Hp} {v w : V} {p q : PV} (r1 : Rep K κ H v p) (r2 : Rep K κ H' w q) (f1 : flat p = true) (f2 : flat q = true) : eqF p q = eqV v w := by
  cases r1 <;> cases r2 <;> simp_all [flat, eqF, eqV]
theorem inP_V {K : PySem.W.Frag} {H H' : Hp} {v : V} {p : PV} (r : Rep K κ H v p) (f : flat p = true) : ∀ {vs : List V} {l : List PV}, Reps K κ H' vs l → l.all flat = true → inP p l = inV v vs
  | _, _, .nil, _ => rfl
  | _, _, .cons r1 t, h => by
    rw [List.all_cons, Bool.and_eq_true] at h
    have ih := inP_V r f t h.2
    unfold inP inV at ih ⊢
    rw [List.any_cons, List.any_cons, ih, eqF_V r1 r h.1 f]
theorem in_core {neg : Bool} {K : PySem.W.Frag} {hH H' : Hp} {x y : V} {p1 p2 p : PV} {Q : VK} (b1 : BR K κ hH H' x p1) (b2 : BR K κ hH H' y p2) (s : Same hH H') (e : (if neg then gNotIn p1 p2 else gIn p1 p2) = some p) (q : ∀ b, p = .bl b → Q (.bl b) H') : rIn K neg x y H' Q := by
  have go : ∀ (l : List PV) (vs : List V) (a : Addr), y = .ref a → (SqL K H' a vs ∨ SqT K H' a vs) → Reps K κ hH vs l → (if (flat p1 && l.all flat) = true then some (PV.bl (if neg then !inP p1 l else inP p1 l)) else none) = some p → rIn K neg x y H' Q := by
    intro l vs a hy hs w e
    obtain ⟨h1, h2⟩ := ite_some e
    rw [Bool.and_eq_true] at h1
    have rx := b1.full s
    refine ⟨a, vs, hy, hs, ?_, flats w h1.2, ?_⟩
    · cases rx <;> simp_all [flat, flatV]
    · rw [inP_V rx h1.1 w h1.2] at h2
      exact q _ h2.symm
  cases p2 with
  | lst l =>
    obtain ⟨a, vs, rfl, q1, q2⟩ := b2.lst s
    exact go l vs a rfl (.inl q1.sq) q2 (by cases neg <;> exact e)
  | tup l =>
    obtain ⟨a, vs, rfl, q1, q2⟩ := b2.tup s
    exact go l vs a rfl (.inr q1) q2 (by cases neg <;> exact e)
  | _ => cases neg <;> cases e
theorem dc_in (ha : DB X κ a fa) (hb : DB X κ b fb) : DC X κ .In a b (dBin gIn fa fb) := by
  obtain ⟨ta, h1, h2⟩ := ha
  obtain ⟨tb, h3, h4⟩ := hb
  refine ⟨_, _, _, op_in_seq, h1, h3, fun {G A bo own ρ σ H p Q} r e q => ?_⟩
  refine evb2 h2 h4 r e fun x y p1 p2 H' s r' b1 b2 e' => ?_
  exact in_core (neg := false) b1 b2 hide_full e' fun b z => q _ H' s (by rw [z]; exact .bl _)
theorem dc_notIn (ha : DB X κ a fa) (hb : DB X κ b fb) : DC X κ .NotIn a b (dBin gNotIn fa fb) := by
  obtain ⟨ta, h1, h2⟩ := ha
  obtain ⟨tb, h3, h4⟩ := hb
  refine ⟨_, _, _, op_notIn_seq, h1, h3, fun {G A bo own ρ σ H p Q} r e q => ?_⟩
  refine evb2 h2 h4 r e fun x y p1 p2 H' s r' b1 b2 e' => ?_
  exact in_core (neg := true) b1 b2 hide_full e' fun b z => q _ H' s (by rw [z]; exact .bl _)
theorem de_len (ha : DB X κ a fa) (hm : X.mg "len" = none) (hg : Gl X "len" := by rfl) (hs : starEach [a] X.env = (false, eval a X.env) :: starEach [] X.env := by rfl) : DE X κ (.Call (.Name "len" p) [a] [] pos) (dUn gLen fa) := by
  obtain ⟨ta, h1, h2⟩ := ha
  refine ⟨_, pe_callB (call_len_seq.or call_len_str) hg hm PySem.boot_len (pa_cons h1 pa_nil hs) (he := hs), fun {G A bo own ρ σ H p Q} r e q => ?_⟩
  obtain ⟨p1, e1, e2⟩ := Option.bind_eq_some_iff.mp e
  refine h2 r e1 fun x H1 s1 b1 => ?_
  cases p1 <;> first | (cases e2; done) | skip
  · obtain ⟨z1, rfl⟩ := ite_some e2
    exact .inr ⟨_, by rw [b1.str], z1, q _ H1 s1 (.int _)⟩
  · cases e2
    obtain ⟨a, vs, rfl, q1, q2⟩ := b1.lst hide_full
    exact .inl ⟨a, vs, rfl, .inl q1.sq, q _ H1 s1 (by rw [q2.length]; exact .int _)⟩
  · cases e2
    obtain ⟨a, vs, rfl, q1, q2⟩ := b1.tup hide_full
    exact .inl ⟨a, vs, rfl, .inr q1, q _ H1 s1 (by rw [q2.length]; exact .int _)⟩
theorem do_list (ha : DB X κ a fa) (hm : X.mg "list" = none) (hg : Gl X "list" := by rfl) (hs : starEach [a] X.env = (false, eval a X.env) :: starEach [] X.env := by rfl) : DO X κ (.Call (.Name "list" p) [a] [] pos) (dUn gList fa) := by
  obtain ⟨ta, h1, h2⟩ := ha
  refine ⟨_, pe_callTy call_list_of hg hm PyProof.Rows.boot_list (pa_cons h1 pa_nil hs) (he := hs), fun {G A bo own ρ σ H p Q} r e q => ?_⟩
  obtain ⟨p1, e1, e2⟩ := Option.bind_eq_some_iff.mp e
  refine h2 r e1 fun x H1 s1 b1 => ?_
  have fin : ∀ {vs l n}, H1 n = none → Reps X.K κ (hid A own ρ H1) vs l → p = .lst l → Q (.ref n) (upd H1 n (.lst vs)) := fun {vs l n} hn w z => by
    subst z
    refine q _ _ (s1.trans (same_upd hn)) ?_
    obtain ⟨a, ws, l, w1, w2, w3, w4⟩ := (r.mono s1).newO hn w
    refine ⟨a, ws, l, w1, w2, ?_, w4⟩
    cases w1
    exact s1.free hn
  cases p1 <;> first | (cases e2; done) | skip
  · obtain ⟨a, vs, rfl, q1, q2⟩ := b1.lst hide_full
    exact ⟨a, vs, rfl, .inl q1.sq, fun n hn => fin hn q2 (Option.some.inj e2).symm⟩
  · obtain ⟨a, vs, rfl, q1, q2⟩ := b1.tup hide_full
    exact ⟨a, vs, rfl, .inr q1, fun n hn => fin hn q2 (Option.some.inj e2).symm⟩
theorem de_bits {apos cpos : Pos} (ha : DB X κ a fa) (hbase : attributeBase a "bit_length" X.env (eval a X.env) = eval a X.env := by rfl) (hline : (apos.endLine == cpos.line) = true := by rfl) : DE X κ (.Call (.Attribute a "bit_length" apos) [] [] cpos) (dUn gBits fa) := by
  obtain ⟨ta, h1, h2⟩ := ha
  refine ⟨_, pe_bm0 PySem.F.plainAttrs_int PySem.F.slot_int_bit_length PySem.F.type_int_bit_length mt_bits h1 hbase hline, fun {G A bo own ρ σ H p Q} r e q => ?_⟩
  obtain ⟨p1, e1, e2⟩ := Option.bind_eq_some_iff.mp e
  refine h2 r e1 fun x H1 s1 b1 => ?_
  cases p1 <;> first | (cases e2; done) | skip
  cases e2
  have := b1.int
  subst this
  exact ⟨rfl, _, rfl, rfl, q _ H1 s1 (.int _)⟩
theorem Reps.at {K : PySem.W.Frag} {H : Hp} {vs : List V} {l : List PV} {i : Int} {p : PV} (h : Reps K κ H vs l) (e : itemAt l i = some p) : ∃ v, atI vs i = some v ∧ Rep K κ H v p := by
  obtain ⟨j, e1, e2⟩ := Option.bind_eq_some_iff.mp e
  obtain ⟨v, h1, h2⟩ := h.get e2
  refine ⟨v, ?_, h2⟩
  unfold atI
  rw [h.length]
  exact Option.bind_eq_some_iff.mpr ⟨j, e1, h1⟩
theorem de_ix (ha : DB X κ a fa) (hb : DB X κ b fb) (hs : PlainIx b := by intro _ _; rfl) : DE X κ (.Subscript a b pos) (dBin gIx fa fb) := by
  obtain ⟨ta, h1, h2⟩ := ha
  obtain ⟨tb, h3, h4⟩ := hb
  refine ⟨_, pe_ix ix_seq h1 h3 hs, fun {G A bo own ρ σ H p Q} r e q => ?_⟩
  refine evb2 h2 h4 r e fun x y p1 p2 H' s r' b1 b2 e' => ?_
  (cases p1 <;> first | (cases e'; done) | skip) <;> cases p2 <;> first | (cases e'; done) | skip
  · rename_i x' i'
    have e3 : (if x'.length ≤ sizeLine then (itemAt x'.cps.toList i').map fun c => PV.str ⟨#[c]⟩ else none) = some p := e'
    have z1 : x'.length ≤ sizeLine := by
      by_cases z : x'.length ≤ sizeLine
      · exact z
      · rw [if_neg z] at e3
        cases e3
    have z2 : ((itemAt x'.cps.toList i').map fun c => PV.str ⟨#[c]⟩) = some p := by
      rw [if_pos z1] at e3
      exact e3
    obtain ⟨c, e2, rfl⟩ := Option.map_eq_some_iff.mp z2
    exact .inr (.inr ⟨_, _, c, b1.str, b2.int, z1, e2, q _ H' s (.str _)⟩)
  · obtain ⟨a, vs, rfl, q1, q2⟩ := b1.lst hide_full
    obtain ⟨v, z1, z2⟩ := q2.at e'
    exact .inl ⟨a, vs, _, v, rfl, b2.int, q1.sq, z1, q _ H' s z2⟩
  · obtain ⟨a, vs, rfl, q1, q2⟩ := b1.tup hide_full
    obtain ⟨v, z1, z2⟩ := q2.at e'
    exact .inr (.inl ⟨a, vs, _, v, rfl, b2.int, q1, z1, q _ H' s z2⟩)
def DP (X : Cx) (κ : Kl) (e : Option Expr) (f : DenO) : Prop := ∃ to, PO X e to ∧ ∀ {G A bo own ρ σ H o Q}, R X.K κ G A bo own ρ σ H → f ρ = some o → (∀ H', Same H H' → Q o H') → to σ H Q
theorem dp_none : DP X κ none oNone := ⟨_, po_none, fun {G A bo own ρ σ H o Q} r e q => by cases e; exact q H (Same.refl _)⟩
theorem dp_some (ha : DB X κ a fa) : DP X κ (some a) (oSome fa) := by
  obtain ⟨ta, h1, h2⟩ := ha
  refine ⟨_, po_some h1, fun {G A bo own ρ σ H o Q} r e q => ?_⟩
  obtain ⟨p, e1, e2⟩ := Option.bind_eq_some_iff.mp e
  obtain ⟨i, e3, rfl⟩ := Option.map_eq_some_iff.mp e2
  refine h2 r e1 fun x H1 s1 b1 => ?_
  cases p <;> first | (cases e3; done) | skip
  cases e3
  exact ⟨_, b1.int, q H1 s1⟩
theorem Reps.cut {K : PySem.W.Frag} {H : Hp} {vs : List V} {l : List PV} (h : Reps K κ H vs l) (lo hi : Option Int) : Reps K κ H (cutV vs lo hi) (cutP l lo hi) := by
  have e : ∀ n d o, HT.sIx n d o = sIxP n d o := fun n d o => by cases o <;> rfl
  unfold cutV cutP
  rw [h.length, e, e]
  exact (h.drop _).take _
theorem do_slice {p2 : Pos} {lo hi : Option Expr} {fl fh : DenO} (ha : DB X κ a fa) (hl : DP X κ lo fl) (hh : DP X κ hi fh) : DO X κ (.Subscript a (.Slice lo hi none p2) pos) (dSl fa fl fh) := by
  obtain ⟨ta, h1, h2⟩ := ha
  obtain ⟨tl, h3, h4⟩ := hl
  obtain ⟨th, h5, h6⟩ := hh
  refine ⟨_, pe_slice sl_list h1 h3 h5, fun {G A bo own ρ σ H p Q} r e q => ?_⟩
  obtain ⟨p1, e1, e2⟩ := Option.bind_eq_some_iff.mp e
  obtain ⟨o1, e3, e4⟩ := Option.bind_eq_some_iff.mp e2
  obtain ⟨o2, e5, e6⟩ := Option.bind_eq_some_iff.mp e4
  refine h2 r e1 fun x H1 s1 b1 => h4 (r.mono s1) e3 fun H2 s2 => h6 ((r.mono s1).mono s2) e5 fun H3 s3 => ?_
  cases p1 <;> first | (cases e6; done) | skip
  cases e6
  have s13 := (s1.trans s2).trans s3
  obtain ⟨a, vs, rfl, q1, q2⟩ := (b1.mono' (s2.trans s3)).lst hide_full
  refine ⟨a, vs, rfl, q1.sq, fun n hn => q _ _ (s13.trans (same_upd hn)) ?_⟩
  obtain ⟨a, ws, l, w1, w2, w3, w4⟩ := (r.mono s13).newO hn (q2.cut o1 o2)
  refine ⟨a, ws, l, w1, w2, ?_, w4⟩
  cases w1
  exact s13.free hn
def tyN : Nat → String
  | 0 => "int"
  | 1 => "bool"
  | 2 => "str"
  | 3 => "list"
  | 4 => "tuple"
  | _ => "NoneType"
theorem kit_ok (K : PySem.W.Frag) : ∀ j, j < 6 → ∀ k, k < 5 → PySem.W.kitOne K (.type (tyN j)) (.type (tyN k)) = some (j == k || (k == 0 && j == 1)) := by
  intro j hj k hk
  rcases j with _ | _ | _ | _ | _ | _ | j <;> first | omega | (rcases k with _ | _ | _ | _ | _ | k <;> first | omega | rfl)
theorem call_isinst (k : Nat) (hk : k < 5) : CallR X (.builtin "isinstance") (fun xs H Q => ∃ x p, xs = [x, .ty (tyN k)] ∧ Rep X.K κ H x p ∧ kindP p ≠ 6 ∧ Q (.bl (isKind k p)) H) := by
  intro pins s σ H xs us Q I r h
  obtain ⟨x, p, rfl, rp, h6, q⟩ := h
  obtain ⟨u, c, rfl, ru, rc⟩ := vals2 r
  cases rc
  have fin : ∀ tk : Nat, EP X pins σ Q (.bool (isKind k p)) { s with toks := tk } := fun tk => ⟨.bl _, H, I.tok _, rfl, q⟩
  have kit := fun j hj => kit_ok X.K j hj k hk
  cases rp with
  | non => cases ru; exact PySem.W.kia_one PySem.W.kitx_none I.kIn True.intro (kit 5 (by decide)) (fun z => nomatch z) fin
  | bl b => cases ru; exact PySem.W.kia_one PySem.W.kitx_bool I.kIn True.intro (kit 1 (by decide)) (fun z => nomatch z) fin
  | int i => obtain ⟨t, rfl⟩ := ru; exact PySem.W.kia_one PySem.W.kitx_int I.kIn True.intro (kit 0 (by decide)) (fun z => nomatch z) fin
  | str i => obtain ⟨t, rfl⟩ := ru; exact PySem.W.kia_one PySem.W.kitx_str I.kIn True.intro (kit 2 (by decide)) (fun z => nomatch z) fin
  | lst h1 _ =>
    cases ru
    obtain ⟨_, _, pl, _⟩ := I.list h1.sq
    obtain ⟨o, ho, hc, _⟩ := pl.isList
    exact PySem.W.kia_one PySem.W.kitx_list I.kIn ⟨o, ho, hc⟩ (kit 3 (by decide)) (fun z => nomatch z) fin
  | tup h1 _ =>
    cases ru
    obtain ⟨_, _, pl, _⟩ := I.tuple h1
    obtain ⟨o, ho, hc, _⟩ := pl
    exact PySem.W.kia_one PySem.W.kitx_tuple I.kIn ⟨o, ho, hc⟩ (kit 4 (by decide)) (fun z => nomatch z) fin
  | ins _ _ _ => exact absurd rfl h6
theorem de_isinst {x : Str} {p2 : Pos} (k : Nat) (hk : k < 5) (hv : bootBuiltins x = some (.type (tyN k))) (ha : DB X κ a fa) (hm : X.mg "isinstance" = none) (hm2 : X.mg x = none) (hg : Gl X "isinstance") (hg2 : Gl X x) (hn : x ≠ "__name__") (hd : (x == ("__debug__" : Str)) = false)
    (hs : starEach [a, .Name x p2] X.env = (false, eval a X.env) :: starEach [.Name x p2] X.env) (hs2 : starEach [.Name x p2] X.env = (false, eval (.Name x p2) X.env) :: starEach [] X.env) (hpl : (backTo pos (starEach [.Name x p2] X.env)).any (·.1) = false) : DE X κ (.Call (.Name "isinstance" p) [a, .Name x p2] [] pos) (dUn (gIs k) fa) := by
  obtain ⟨ta, h1, h2⟩ := ha
  refine ⟨_, pe_callB (call_isinst (κ := κ) k hk) hg hm PyProof.Rows.boot_isinstance (pa_cons h1 (pa_cons (pe_bltn hg2 hm2 hv (v := .ty (tyN k)) rfl hn hd) pa_nil hs2) hs) (he := hs) (hpl := hpl), fun {G A bo own ρ σ H p Q} r e q => ?_⟩
  obtain ⟨p1, e1, e2⟩ := Option.bind_eq_some_iff.mp e
  refine h2 r e1 fun x H1 s1 b1 => ?_
  unfold gIs at e2
  split at e2
  · cases e2
  · cases e2
    exact ⟨_, p1, rfl, b1.full hide_full, by assumption, q _ H1 s1 (.bl _)⟩
end
end L2.D
set_option Elab.async false
set_option linter.all false
set_option maxRecDepth 100000
set_option maxHeartbeats 1000000
namespace L2.D
open PySem PySem.Spec PyProof.Rows PySem.SeqAt
open Classical
def kl0 : Kl := ⟨fun _ => 0, fun _ => []⟩
theorem law_callD {P : Program} {w : World} {K : PySem.W.Frag} {mg mb : Str → Option Value} {CX : CXT} {k : Nat} {fa a : Addr} {fd : FuncData} {x : Str} {sp : Sp} {s₁ : Shared} {vs : List Value} {ns : List Int}
    (KX : K.In s₁.heap) (hns : s₁.heap.Ns mainGlobals mg) (hb : s₁.heap.Ns builtinsNs mb) (hbb : ∀ x : Str, x ≠ "__name__" → mb x = bootBuiltins x) (hlim : s₁.heap.NoLimit) (hg : s₁.gens = #[])
    (ha : s₁.heap.get? a = some { cls := .type "list", data := .seq vs.toArray }) (hi : IntsAre vs ns) (hl : ns.length ≤ sizeLine) (hr : Room k callerA)
    (F : ∀ base : Heap, K.In base → base.Ns mainGlobals mg → FnOk P w K mg base CX k fa fd [x] sp) (hbind : ∀ (s : Shared) (u : Value), BindsTo s fd ⟨[u], []⟩ [(x, u)])
    (hsp : ∀ H : Hp, Only H → SL K H a (ns.map V.int) → sp [.ref a] H (fun v _ => v = .bl true) fun _ _ _ => False)
    (hCX : ∀ H e s', CX [] H s₁ (fun _ _ _ => False) e s' → False) :
    codeAny (model P w) callerA (.call (.ref fa) ⟨[.ref a], []⟩) (fun r s' => r = .ok (.ret (.bool true)) ∧ OldK s₁.heap s'.heap ∧ s'.os = s₁.os ∧ AllBare s'.gens) s₁ := by
  have rv := vals_ints hi
  have lenV := hi.length
  have core : ∀ H : Hp, Only H → SL K H a (ns.map V.int) → HOk P w H s₁.heap → (∀ b, H b ≠ none → b = a) → (H a ≠ none → K.lookup a = none) →
      codeAny (model P w) callerA (.call (.ref fa) ⟨[.ref a], []⟩) (fun r s' => r = .ok (.ret (.bool true)) ∧ OldK s₁.heap s'.heap ∧ s'.os = s₁.os ∧ AllBare s'.gens) s₁ := by
    intro H hO hS hok hA hK
    have base_of : ∀ {b : Addr} {o : Obj}, s₁.heap.get? b = some o → H b = none → (hidT s₁.heap H).get? b = some o := fun e n => hidT_get e n
    have noA : ∀ {b : Addr} {o : Obj} {es : Array DictEntry} {ep : Nat}, s₁.heap.get? b = some o → o.data = .dict es ep → H b = none := fun {b o es ep} e d => by
      cases q : H b with
      | none => rfl
      | some u =>
        have e' : b = a := hA b (by rw [q]; simp)
        subst e'
        rw [ha] at e; cases e
        have d' : Data.seq vs.toArray _ = Data.dict es ep := d
        cases d'
    have nsK : ∀ {b : Addr} {m : Str → Option Value}, s₁.heap.Ns b m → (hidT s₁.heap H).Ns b m := fun {b m} ⟨o, es, ep, e, d, r⟩ => ⟨o, es, ep, base_of e (noA e d), d, r⟩
    have hKb : K.In (hidT s₁.heap H) := fun b o e => base_of (KX b o e) (by
      cases q : H b with
      | none => rfl
      | some u =>
        have e' : b = a := hA b (by rw [q]; simp)
        subst e'
        rw [hK (by rw [q]; simp)] at e; cases e)
    have hM : Mod K mg (hidT s₁.heap H) := ⟨hKb, nsK hns, ⟨mb, nsK hb, hbb⟩, let ⟨mc, h1, h2⟩ := hlim; ⟨mc, nsK h1, h2⟩⟩
    have e0 : Env0 P w K mg (hidT s₁.heap H) callerA [] s₁ H := ⟨rfl, hM, fun b o e => of_hidT e, Nat.le_of_eq (hidT_size _ _), trivial, fun b hb => absurd (show b ∈ ([] : List Addr) from hb) (by simp), hok, .of_eq hg⟩
    refine codeAny_mono ((F _ hKb (nsK hns)).run callerA [] s₁ H ⟨[.ref a], []⟩ [.ref a] [.ref a] _ _ hr e0 (hbind s₁ (.ref a)) (.cons rfl .nil) (hsp H hO hS)) fun r s' h => ?_
    cases r with
    | error e => exact (hCX H e s' h).elim
    | ok fl =>
      cases fl with
      | next => exact False.elim h
      | brk => exact False.elim h
      | cont => exact False.elim h
      | ret u =>
        obtain ⟨v, H', os, bare, un, hok', r', q⟩ := h
        have q' : v = .bl true := q
        subst q'
        obtain rfl : u = Value.bool true := r'
        refine ⟨rfl, OldK.of_keep fun b o e => ?_, os, bare⟩
        cases q : H b with
        | none => exact un.keep b o e q (by intro z; exact absurd (show b ∈ ([] : List Addr) from z) (by simp)) (by simp)
        | some u =>
          rcases hO b with z | ⟨ob, xs, z⟩
          · rw [q] at z; cases z
          · have z2 := un.frzs b ob _ z
            obtain ⟨e1, _⟩ := hok b _ z
            obtain ⟨e2, _⟩ := hok' b _ z2
            rw [e] at e1; cases e1
            exact e2
  cases hk : K.lookup a with
  | some o =>
    have e := KX a o hk
    rw [ha] at e
    cases e
    refine core (fun _ => none) (fun _ => .inl rfl) (.inr ⟨vs, _, hk, by rw [lenV]; exact hl, rv⟩) (fun b u z => by have z' : (none : Option HO) = some u := z; cases z') (fun b z => absurd rfl z) fun z => absurd rfl z
  | none =>
    refine core (fun b => if b = a then some (.frz { cls := .type "list", data := .seq vs.toArray } (.lst (ns.map V.int))) else none) (fun b => ?_) (.inl (.inr ⟨{ cls := .type "list", data := .seq vs.toArray }, if_pos rfl⟩)) (fun b u z => ?_) (fun b z => ?_) fun _ => hk
    · by_cases hb : b = a
      · exact .inr ⟨_, _, if_pos hb⟩
      · exact .inl (if_neg hb)
    · by_cases hb : b = a
      · have z' := (if_pos hb).symm.trans z
        cases z'
        subst hb
        exact ⟨ha, by rw [List.length_map]; exact hl, vs, _, rv, ha⟩
      · have z' := (if_neg hb).symm.trans z
        cases z'
    · by_cases hb : b = a
      · exact hb
      · exact absurd (if_neg hb) z
theorem ints_rep {K : PySem.W.Frag} {κ : Kl} {H : Hp} : ∀ ns : List Int, Reps K κ H (ns.map V.int) (ns.map PV.int)
  | [] => .nil
  | n :: ns => .cons (.int n) (ints_rep ns)
theorem walkD {l : PySem.W.OpenLaw} {n k : Nat} {q : Program} {loose : List Str} {XP : (Str → Option Value) → Heap → Prop} {YP : World → Heap → Prop} {d : DefRec} {K : Params → PySem.W.Frag} {x : Str} {κ : Kl} {F : List PV → Option PV}
    (hn : l.most = some n) (hn2 : n ≤ sizeLine) (hdf : d.params.defaults = []) (hr : Room k callerA)
    (hY : ∀ (w : World) (h : Heap), YP w h → (K w.params).In h)
    (FF : ∀ (w : World) (mg : Str → Option Value) (fa : Addr) (h : Heap), (K w.params).In h → h.Ns mainGlobals mg → mg d.name = some (.ref fa) →
      ∃ fd : FuncData, (∀ (s : Shared) (u : Value), BindsTo s fd ⟨[u], []⟩ [(x, u)]) ∧
        ∀ base : Heap, (K w.params).In base → base.Ns mainGlobals mg → FnOk l.prog w (K w.params) mg base CX0 k fa fd [x] (spD (K w.params) κ false F))
    (hF : ∀ ns : List Int, ns.length ≤ n → F [.lst (ns.map .int)] = some (.bl true)) :
    PySem.W.WalkO q loose XP YP l.row.toRowW d [] (fun f vs => PySem.call f vs) := by
  refine Att.attach_call hn hdf fun w s₀ s₁ mg mb fa o pm cd doc a vs ns G Y ho hd hcd hmg hobj hints hlen hg => ?_
  have KX := hY w _ Y
  obtain ⟨fd, hb, hF'⟩ := FF w mg fa _ KX G.T.g hmg
  refine law_callD KX G.T.g G.T.b G.T.builtins G.T.nolimit hg hobj hints (Nat.le_trans hlen hn2) hr hF' hb (fun H hO hS => ?_) fun H e s' z => z
  have e : hide (fun _ => False) H = H := by
    funext b
    exact hide_of fun z => z
  refine ⟨fun _ => False, [.lst (ns.map .int)], .bl true, fun b z => z.elim, .cons ?_ .nil, hF ns hlen, fun v H' s z => ?_⟩
  · rw [e]
    exact .lst hS (ints_rep ns)
  · cases (show Rep (K w.params) κ _ v (.bl true) from z)
    rfl
section
variable {X : Cx} {κ : Kl} {fr : Bool} {e a b c : Expr} {f fa fb fc : Den} {p pos : Pos}
theorem de_isinst_int {p2 : Pos} (ha : DB X κ a fa) (hm : X.mg "isinstance" = none) (hm2 : X.mg "int" = none) (hg : Gl X "isinstance" := by rfl) (hg2 : Gl X "int" := by rfl) (hs : starEach [a, .Name "int" p2] X.env = (false, eval a X.env) :: starEach [.Name "int" p2] X.env := by rfl) (hs2 : starEach [.Name "int" p2] X.env = (false, eval (.Name "int" p2) X.env) :: starEach [] X.env := by rfl)
    (hpl : (backTo pos (starEach [.Name "int" p2] X.env)).any (·.1) = false := by rfl) : DE X κ (.Call (.Name "isinstance" p) [a, .Name "int" p2] [] pos) (dUn (gIs 0) fa) := de_isinst 0 (by decide) PyProof.Rows.boot_int ha hm hm2 hg hg2 (by decide) (by decide) hs hs2 hpl
theorem de_isinst_bool {p2 : Pos} (ha : DB X κ a fa) (hm : X.mg "isinstance" = none) (hm2 : X.mg "bool" = none) (hg : Gl X "isinstance" := by rfl) (hg2 : Gl X "bool" := by rfl) (hs : starEach [a, .Name "bool" p2] X.env = (false, eval a X.env) :: starEach [.Name "bool" p2] X.env := by rfl) (hs2 : starEach [.Name "bool" p2] X.env = (false, eval (.Name "bool" p2) X.env) :: starEach [] X.env := by rfl)
    (hpl : (backTo pos (starEach [.Name "bool" p2] X.env)).any (·.1) = false := by rfl) : DE X κ (.Call (.Name "isinstance" p) [a, .Name "bool" p2] [] pos) (dUn (gIs 1) fa) := de_isinst 1 (by decide) PyProof.Rows.boot_bool ha hm hm2 hg hg2 (by decide) (by decide) hs hs2 hpl
theorem de_isinst_str {p2 : Pos} (ha : DB X κ a fa) (hm : X.mg "isinstance" = none) (hm2 : X.mg "str" = none) (hg : Gl X "isinstance" := by rfl) (hg2 : Gl X "str" := by rfl) (hs : starEach [a, .Name "str" p2] X.env = (false, eval a X.env) :: starEach [.Name "str" p2] X.env := by rfl) (hs2 : starEach [.Name "str" p2] X.env = (false, eval (.Name "str" p2) X.env) :: starEach [] X.env := by rfl)
    (hpl : (backTo pos (starEach [.Name "str" p2] X.env)).any (·.1) = false := by rfl) : DE X κ (.Call (.Name "isinstance" p) [a, .Name "str" p2] [] pos) (dUn (gIs 2) fa) := de_isinst 2 (by decide) PyProof.Rows.boot_str ha hm hm2 hg hg2 (by decide) (by decide) hs hs2 hpl
theorem de_isinst_list {p2 : Pos} (ha : DB X κ a fa) (hm : X.mg "isinstance" = none) (hm2 : X.mg "list" = none) (hg : Gl X "isinstance" := by rfl) (hg2 : Gl X "list" := by rfl) (hs : starEach [a, .Name "list" p2] X.env = (false, eval a X.env) :: starEach [.Name "list" p2] X.env := by rfl) (hs2 : starEach [.Name "list" p2] X.env = (false, eval (.Name "list" p2) X.env) :: starEach [] X.env := by rfl)
    (hpl : (backTo pos (starEach [.Name "list" p2] X.env)).any (·.1) = false := by rfl) : DE X κ (.Call (.Name "isinstance" p) [a, .Name "list" p2] [] pos) (dUn (gIs 3) fa) := de_isinst 3 (by decide) PyProof.Rows.boot_list ha hm hm2 hg hg2 (by decide) (by decide) hs hs2 hpl
theorem de_isinst_tuple {p2 : Pos} (ha : DB X κ a fa) (hm : X.mg "isinstance" = none) (hm2 : X.mg "tuple" = none) (hg : Gl X "isinstance" := by rfl) (hg2 : Gl X "tuple" := by rfl) (hs : starEach [a, .Name "tuple" p2] X.env = (false, eval a X.env) :: starEach [.Name "tuple" p2] X.env := by rfl) (hs2 : starEach [.Name "tuple" p2] X.env = (false, eval (.Name "tuple" p2) X.env) :: starEach [] X.env := by rfl)
    (hpl : (backTo pos (starEach [.Name "tuple" p2] X.env)).any (·.1) = false := by rfl) : DE X κ (.Call (.Name "isinstance" p) [a, .Name "tuple" p2] [] pos) (dUn (gIs 4) fa) := de_isinst 4 (by decide) PyProof.Rows.boot_tuple ha hm hm2 hg hg2 (by decide) (by decide) hs hs2 hpl
end
end L2.D
set_option Elab.async false
set_option linter.all false
set_option maxRecDepth 100000
set_option maxHeartbeats 1000000
set_option Elab.async false
set_option linter.all false
set_option maxRecDepth 100000
set_option maxHeartbeats 1000000
set_option Elab.async false
set_option linter.all false
set_option maxRecDepth 100000
set_option maxHeartbeats 4000000
set_option Elab.async false
set_option linter.all false
set_option maxRecDepth 100000
set_option maxHeartbeats 1000000
namespace L2.D
open PySem PySem.Spec PyProof.Rows PySem.SeqAt
open Classical
section
variable {X : Cx} {κ : Kl} {fr : Bool} {pos : Pos}
theorem ds_insert {x : Str} {p' apos cpos : Pos} {e1 e2 : Expr} {fs : DenL} (i : Nat) (ha : DA X κ [e1, e2] fs) (hN : X.N[i]? = some x := by rfl) (hv : Vis X.env.scope x := by first | exact Or.inl rfl | exact Or.inr (Or.inl rfl) | exact Or.inr (Or.inr rfl)) (hd : (x == ("__debug__" : Str)) = false := by decide)
    (hcd : (x == ("__classdict__" : Str)) = false := by decide) (hbase : attributeBase (.Name x p') "insert" X.env (eval (.Name x p') X.env) = eval (.Name x p') X.env := by rfl)
    (hfew : ((backTo cpos (starEach [e1, e2] X.env)).all (fun x => !x.1) && (backToKw cpos (keywordEach [] X.env)).all (fun x => x.1.isSome)
      && decide ([e1, e2].length + ([] : List Keyword).length + (if ([] : List Keyword).isEmpty then 0 else 1) < 30)) = true := by rfl)
    (hs : swapsWith (.Call (.Attribute (.Name x p') "insert" apos) [e1, e2] [] cpos) none pos.line X.env = pure false := by rfl) (hline : (apos.endLine == cpos.line) = true := by rfl) (hst : starEach [e1, e2] X.env = (false, eval e1 X.env) :: starEach [e2] X.env := by rfl)
    (hpl : (backTo cpos (starEach [e2] X.env)).any (·.1) = false := by rfl) : DS X κ fr (.Expr (.Call (.Attribute (.Name x p') "insert" apos) [e1, e2] [] cpos) pos) (sMut i mInsert fs) := by
  obtain ⟨ta, h1, h2⟩ := ha
  refine ⟨_, ps_expr (pe_bm PySem.F.plainAttrs_list PySem.F.slot_list_insert PySem.F.type_list_insert mt_insert (pe_var hN hv hd hcd) h1 hbase hfew hline hst hpl) hs, svt_mut i ?_ h2⟩
  intro hH H a vs ws l xs l' Q s h3 h4 h5 h6 q
  unfold mInsert at h6
  split at h6
  · rename_i k y
    obtain ⟨h7, rfl⟩ := ite_some h6
    simp only [Bool.and_eq_true, decide_eq_true_eq] at h7
    cases h5 with
    | cons z1 t =>
      cases t with
      | cons z2 t =>
        cases t
        cases z1
        refine ⟨a, vs, k.toNat, _, rfl, by rw [Int.toNat_of_nonneg h7.1.1], h3, by rw [h4.length]; exact h7.1.2, by rw [h4.length]; exact h7.2, q _ ?_⟩
        exact (h4.take _).append (.cons z2 (h4.drop _))
  · cases h6
theorem ds_setCO (i : Nat) {y x : Str} {py px spos : Pos} {sc : Scope} {elt iter : Expr} {fi : DenL} {f : Den} (hN : X.N.Nodup) (hi : DIB X κ (.Name x px) iter fi) (osc : Scope) (N0 ys : List Str) (he : ∀ ex C s H, DE (X.blk sc x ys ex C s H) κ elt f) (hiy : X.N[i]? = some y := by rfl) (hy : X.env.scope.names.lookup y = some .local := by rfl) (hosc : X.env.scope = osc := by rfl) (hN0 : X.N = N0 := by rfl) (hcs : compOk osc N0 sc x ys = true := by decide +kernel) (hc : X.calm = true := by rfl)
    (hs : ∀ x, foldedSetIterable iter X.env x = pure x := by intro _; rfl) (hsw : swapsWith (.ListComp elt [⟨.Name x px, iter, [], 0⟩] sc pos) (some (.Name y py)) spos.line X.env = pure true := by rfl) :
    DS X κ fr (.Assign [.Name y py] (.ListComp elt [⟨.Name x px, iter, [], 0⟩] sc pos) spos) (sSetO i (dComp fi tTrue f)) := by
  obtain ⟨wi, h1, h2⟩ := hi
  refine ⟨_, ps_setC hN hiy hy h1 ys (tt := ttS X.K κ tTrue) (te := teS X.K κ f) (fun ex C s H => ?_) (fun ex C s H => (he ex C s H).pe) (by rw [hosc, hN0]; exact hcs) hc hs hsw, fun {G A bo own ρ σ H fl D} r e k => ?_⟩
  · intro pins s σ H Q I ⟨_, _, _, _, _, _, r, e, q⟩
    cases e
    exact pifs_nil pins s σ H Q I (q _ (Same.refl _))
  · obtain ⟨p, e1, e2⟩ := Option.bind_eq_some_iff.mp e
    obtain ⟨l, e3, rfl⟩ := Option.map_eq_some_iff.mp e2
    refine evo_comp h2 r e1 fun v H' s z => ?_
    cases p <;> first | (cases e3; done) | skip
    cases e3
    obtain ⟨own', r'⟩ := r.setN s (i := i) z
    exact k _ _ _ r'
end
end L2.D
set_option Elab.async false
set_option linter.all false
set_option maxRecDepth 100000
set_option maxHeartbeats 1000000
namespace L2.D
open PySem
theorem fnok_none {P : Program} {w : World} {K : PySem.W.Frag} {mg : Str → Option Value} {base : Heap} {κ : Kl} {fr : Bool} {k : Nat} {f : Addr} {fd : FuncData} {ps : List Str} : FnOk P w K mg base CX0 k f fd ps (spD K κ fr fun _ => none) :=
  have no : ∀ {vs : List V} {H : Hp} {Q : VK} {E : XK}, spD K κ fr (fun _ => none) vs H Q E → False := fun ⟨_, _, _, _, _, h2, _⟩ => by cases h2
  ⟨fun _ _ _ _ h => (no h).elim, fun _ _ _ _ _ _ _ _ _ _ _ _ _ h => (no h).elim⟩
end L2.D
set_option Elab.async false
set_option linter.all false
set_option maxRecDepth 100000
set_option maxHeartbeats 1000000
set_option Elab.async false
set_option linter.all false
set_option maxRecDepth 100000
set_option maxHeartbeats 1000000
set_option Elab.async false
set_option linter.all false
set_option maxRecDepth 100000
set_option maxHeartbeats 1000000
set_option Elab.async false
set_option linter.all false
set_option maxRecDepth 100000
set_option maxHeartbeats 1000000
set_option Elab.async false
set_option linter.all false
set_option maxRecDepth 100000
set_option maxHeartbeats 1000000
set_option Elab.async false
set_option linter.all false
set_option maxRecDepth 100000
set_option maxHeartbeats 1000000
namespace L2.D
open PySem PySem.Spec PyProof.Rows PySem.SeqAt
section
variable {X : Cx} {κ : Kl} {pos p2 : Pos} {a b e : Expr} {fa fb : Den}
theorem mt_find : MtR X "str.find" (fun x xs H Q => ∃ i j, x = .str i ∧ xs = [.str j] ∧ Q (.int (Txt.find i j)) H) := by
  intro pins s σ H x xs v us Q I rx r h
  obtain ⟨i, j, rfl, rfl, q⟩ := h
  obtain ⟨t, rfl⟩ := rx
  obtain ⟨u, rfl, t', rfl⟩ := vals1 r
  exact SC.find ⟨.int _, H, I.tok _, ⟨_, rfl⟩, q⟩
theorem de_find {apos : Pos} (ha : DB X κ a fa) (hb : DB X κ b fb) (hbase : attributeBase a "find" X.env (eval a X.env) = eval a X.env := by rfl)
    (hfew : ((backTo pos (starEach [b] X.env)).all (fun x => !x.1) && (backToKw pos (keywordEach [] X.env)).all (fun x => x.1.isSome)
      && decide ([b].length + ([] : List Keyword).length + (if ([] : List Keyword).isEmpty then 0 else 1) < 30)) = true := by rfl)
    (hline : (apos.endLine == pos.line) = true := by rfl) (hs : starEach [b] X.env = (false, eval b X.env) :: starEach [] X.env := by rfl) : DE X κ (.Call (.Attribute a "find" apos) [b] [] pos) (dBin gFind fa fb) := by
  obtain ⟨ta, h1, h2⟩ := ha
  obtain ⟨tb, h3, h4⟩ := hb
  refine ⟨_, pe_bm PySem.F.plainAttrs_str PySem.F.slot_str_find PySem.F.type_str_find mt_find h1 (pa_cons h3 pa_nil hs) hbase hfew hline hs, fun {G A bo own ρ σ H p Q} r e q => ?_⟩
  obtain ⟨p1, e1, e2⟩ := Option.bind_eq_some_iff.mp e
  obtain ⟨p2, e3, e4⟩ := Option.bind_eq_some_iff.mp e2
  (cases p1 <;> first | (cases e4; done) | skip) <;> cases p2 <;> first | (cases e4; done) | skip
  cases e4
  refine h2 r e1 fun x H1 s1 b1 => ?_
  rw [b1.str]
  refine ⟨rfl, h4 (r.mono s1) e3 fun y H2 s2 b2 => ?_⟩
  rw [b2.str]
  exact ⟨_, _, rfl, rfl, q _ H2 (s1.trans s2) (.int _)⟩
theorem strs_V {K : PySem.W.Frag} {H : Hp} : ∀ {vs : List V} {l : List PV} {ts : List Str}, Reps K κ H vs l → strsP l = some ts → vs = ts.map V.str
  | _, _, _, .nil, h => by cases h; rfl
  | _, p :: _, _, .cons r t, h => by
    cases p <;> first | (cases h; done) | skip
    obtain ⟨cs, h1, rfl⟩ := Option.map_eq_some_iff.mp h
    cases r
    rw [List.map_cons, ← strs_V t h1]
theorem part_val {v : Value} {o : Option Int} (h : IsPart v o) : ∃ l : Option (Int × Tok), v = partValue l ∧ l.map (·.1) = o := by
  cases h with
  | none => exact ⟨none, rfl, rfl⟩
  | int i t => exact ⟨some (i, t), rfl, rfl⟩
theorem filterMap_le {α β : Type} (f : α → Option β) : ∀ l : List α, (l.filterMap f).length ≤ l.length
  | [] => Nat.le_refl _
  | x :: l => by
    have := filterMap_le f l
    rw [List.filterMap_cons]
    split
    · rw [List.length_cons]; omega
    · rw [List.length_cons, List.length_cons]; omega
end
end L2.D
set_option Elab.async false
set_option linter.all false
set_option maxRecDepth 100000
set_option maxHeartbeats 1000000
set_option Elab.async false
set_option linter.all false
set_option maxRecDepth 100000
set_option maxHeartbeats 1000000
set_option Elab.async false
set_option linter.all false
set_option maxRecDepth 100000
set_option maxHeartbeats 1000000
namespace L2.D
open PySem PySem.Spec PyProof.Rows PySem.SeqAt
section
variable {X : Cx} {κ : Kl} {pos p : Pos} {a b : Expr} {fa fb : Den}
theorem de_tuple (ha : DB X κ a fa) (hm : X.mg "tuple" = none) (hg : Gl X "tuple" := by rfl) (hs : starEach [a] X.env = (false, eval a X.env) :: starEach [] X.env := by rfl) : DE X κ (.Call (.Name "tuple" p) [a] [] pos) (dUn gTuple fa) := by
  obtain ⟨ta, h1, h2⟩ := ha
  refine ⟨_, pe_callTy call_tuple_of hg hm (by decide +kernel) (pa_cons h1 pa_nil hs) (he := hs), fun {G A bo own ρ σ H p Q} r e q => ?_⟩
  obtain ⟨p1, e1, e2⟩ := Option.bind_eq_some_iff.mp e
  refine h2 r e1 fun x H1 s1 b1 => ?_
  cases p1 <;> first | (cases e2; done) | skip
  · cases e2
    obtain ⟨a, vs, rfl, q1, q2⟩ := b1.lst hide_full
    exact ⟨a, vs, rfl, .inl ⟨q1.sq, fun l hl => q _ _ (s1.trans (same_upd hl)) ((r.mono s1).newT hl q2)⟩⟩
  · cases e2
    rcases b1 with b1 | ⟨_, _, _, _, z, _⟩
    · cases b1 with
      | tup q1 q2 => exact ⟨_, _, rfl, .inr ⟨sameT hide_full q1, q _ H1 s1 (.tup q1 q2)⟩⟩
    · cases z
theorem post_cut {l u st : Option (Int × Tok)} {y : Str} {t : Tok} {Q : Value → Shared → Prop} {s : Shared} (h0 : (st.map (·.1)).getD 1 ≠ 0) (hy : y.length ≤ sizeLine) (q : ∀ t' k, Q (.str (cutS y (l.map (·.1)) (u.map (·.1)) ((st.map (·.1)).getD 1)) t') { s with toks := k }) : (sliceMade y t l u st).post Q s := by
  unfold sliceMade
  unfold cutS at q
  unfold slicePicked
  split
  · rename_i hh
    rw [if_pos hh] at q
    exact q t s.toks
  · rename_i hh
    rw [if_neg hh] at q
    refine ⟨?_, q _ _⟩
    show ((Builtin.Str.strSliceIndices _ _ _ y.length).filterMap (y.cps[·]?)).toArray.size ≤ sizeLine
    rw [List.size_toArray]
    have h1 := filterMap_le (y.cps[·]?) (Builtin.Str.strSliceIndices (l.map (·.1)) (u.map (·.1)) ((st.map (·.1)).getD 1) y.length)
    have h2 := sliceIndicesBy_le (l.map (·.1)) (u.map (·.1)) ((st.map (·.1)).getD 1) h0 y.length
    omega
theorem sl_str : SlR X (fun x lo hi H Q => ∃ y, x = .str y ∧ y.length ≤ sizeLine ∧ Q (.str (cutS y lo hi 1)) H) := by
  intro pins s σ H x v vl vu lo hi sl Q I rx hs pl pu h
  obtain ⟨y, rfl, hy, q⟩ := h
  obtain ⟨t, rfl⟩ := rx
  obtain ⟨l, rfl, hl⟩ := part_val pl
  obtain ⟨u, rfl, hu⟩ := part_val pu
  refine ⟨"str", _, F.slot_str_getitem.lookup, typeIs_str _ _ _, wpAny_getItem_str_slice (l := l) (u := u) (st := none) hs rfl (post_cut (st := none) (by decide) hy fun t' k => ?_)⟩
  rw [hl, hu]
  exact ⟨.str _, H, I.tok _, ⟨_, rfl⟩, q⟩
theorem de_sliceA {p2 : Pos} {lo hi : Option Expr} {fl fh : DenO} (ha : DB X κ a fa) (hl : DP X κ lo fl) (hh : DP X κ hi fh) : DE X κ (.Subscript a (.Slice lo hi none p2) pos) (dSlA fa fl fh) := by
  obtain ⟨ta, h1, h2⟩ := ha
  obtain ⟨tl, h3, h4⟩ := hl
  obtain ⟨th, h5, h6⟩ := hh
  refine ⟨_, pe_slice (sl_list.or sl_str) h1 h3 h5, fun {G A bo own ρ σ H p Q} r e q => ?_⟩
  obtain ⟨p1, e1, e2⟩ := Option.bind_eq_some_iff.mp e
  obtain ⟨o1, e3, e4⟩ := Option.bind_eq_some_iff.mp e2
  obtain ⟨o2, e5, e6⟩ := Option.bind_eq_some_iff.mp e4
  refine h2 r e1 fun x H1 s1 b1 => h4 (r.mono s1) e3 fun H2 s2 => h6 ((r.mono s1).mono s2) e5 fun H3 s3 => ?_
  have s13 := (s1.trans s2).trans s3
  cases p1 <;> first | (cases e6; done) | skip
  · obtain ⟨hy, rfl⟩ := ite_some e6
    exact .inr ⟨_, by rw [b1.str], hy, q _ H3 s13 (.str _)⟩
  · cases e6
    obtain ⟨a, vs, rfl, q1, q2⟩ := (b1.mono' (s2.trans s3)).lst hide_full
    exact .inl ⟨a, vs, rfl, q1.sq, fun n hn => q _ _ (s13.trans (same_upd hn)) (OR.rep (r.mono s13) ((r.mono s13).newO hn (q2.cut o1 o2)))⟩
end
end L2.D
set_option Elab.async false
set_option linter.all false
set_option maxRecDepth 100000
set_option maxHeartbeats 1000000
namespace L2.D
open PySem PySem.Spec PyProof.Rows PySem.SeqAt
section
variable {X : Cx} {κ : Kl} {pos p p2 : Pos} {a b c e : Expr} {fa fb : Den}
theorem pe_revS {te tc : TE} (he : PE X e te) (hc : PE X c tc) : PE X (.Subscript e (.Slice none none (some c) p2) pos) (fun σ H Q => te σ H fun x H1 => tc σ H1 fun z H2 => ∃ y, x = .str y ∧ z = .int (-1) ∧ y.length ≤ sizeLine ∧ Q (.str (cutS y none none (-1))) H2) := by
  intro pins s σ H Q I h
  refine Subscript_ (thn (he pins s σ H _ I h) fun v s1 ⟨x, H1, I1, r1, q1⟩ => ?_)
  refine wpAny_Slice ?_
  rw [evalPart_none]
  refine wpAny_pure (wpAny_pure ?_)
  rw [evalPart_some]
  refine thn (hc pins s1 σ H1 _ I1 q1) fun u s3 ⟨z, H3, I3, r3, y, ex, ez, hy, q⟩ => ?_
  subst ex ez
  obtain ⟨t, rfl⟩ := r1
  obtain ⟨t', rfl⟩ := r3
  have I4 : Inv X pins σ H3 { s3 with heap := s3.heap.push { cls := .type "slice", data := .fields #[.none, .none, .int (-1) t'] } } := I3.kept (t' := s3.toks) fun b ob q => Heap.get?_push_of_some _ q
  show wpAny (model X.prog X.w) X.A (subscriptTail e (.Slice none none (some c) p2) (.str y t) (.ref s3.heap.objs.size)) (EP X pins σ Q) X.xe { s3 with heap := s3.heap.push { cls := .type "slice", data := .fields #[.none, .none, .int (-1) t'] } }
  refine tail_any (ops := [.ref s3.heap.objs.size, .str y t]) (T := "str") (typeIs_str _ _ _) F.slot_str_getitem.lookup ?_ (by with_unfolding_all rfl)
  refine wpAny_getItem_str_slice (l := none) (u := none) (st := some (-1, t')) ⟨_, Heap.get?_push_size _ rfl, rfl, rfl⟩ rfl (post_cut (st := some (-1, t')) (show (-1 : Int) ≠ 0 by decide) hy fun t'' k => ?_)
  exact ⟨.str _, H3, I4.tok _, ⟨_, rfl⟩, q⟩
theorem de_revS (ha : DB X κ a fa) (hc : DB X κ c (dUn gNeg (dC (.int 1)))) : DE X κ (.Subscript a (.Slice none none (some c) p2) pos) (dUn gRev fa) := by
  obtain ⟨ta, h1, h2⟩ := ha
  obtain ⟨tc, h3, h4⟩ := hc
  refine ⟨_, pe_revS h1 h3, fun {G A bo own ρ σ H p Q} r e q => ?_⟩
  obtain ⟨p1, e1, e2⟩ := Option.bind_eq_some_iff.mp e
  refine h2 r e1 fun x H1 s1 b1 => h4 (r.mono s1) (p := .int (-1)) rfl fun z H2 s2 b2 => ?_
  cases p1 <;> first | (cases e2; done) | skip
  obtain ⟨hy, rfl⟩ := ite_some e2
  exact ⟨_, b1.str, b2.int, hy, q _ H2 (s1.trans s2) (.str _)⟩
end
end L2.D
set_option Elab.async false
set_option linter.all false
set_option maxRecDepth 100000
set_option maxHeartbeats 1000000
set_option Elab.async false
set_option linter.all false
set_option maxRecDepth 100000
set_option maxHeartbeats 1000000
namespace PySem.SeqAt
open PySem.Spec
open AutoSeq1 (wpAny_loadPart')
open MeetsSeq MeetsSeq2 MeetsSeq3 SeqRoads2
theorem tuple_indexAt (l : Addr) (items : Array Value) (n : Nat) (dd : Option Addr) (sl : Array (Option Value)) (x : Value) (e : Value → Bool) (k : Nat) (hk : k < items.size) (h1 : e items[k] = true) (h2 : ∀ j (hj : j < k), e (items[j]'(by omega)) = false) :
    Meets (Builtin.«tuple.index» ⟨[.ref l, x], []⟩)
      (fun A R s => s.heap.get? l = some { cls := .type "tuple", dict := dd, data := .seq items n, slots := sl } ∧ (∀ y, y ∈ items → EqAt A.in1 s y x (e y)) ∧ R (.ok (.ret (.int (k : Nat) s.toks))) { s with toks := s.toks + 1 }) :=
  .of_wp fun prog w A R s h => by
    obtain ⟨hp, g, d, tk, os⟩ := s; obtain ⟨hl, he, h⟩ := h
    unfold Builtin.«tuple.index»
    simp only [Std.Legacy.Range.forIn_eq_forIn_range', Std.Legacy.Range.size, Nat.sub_zero, Nat.add_sub_cancel, Nat.div_one]
    wp_walk using wpAny_loadPart' hl, wpAny_forIn_list _ (fun rest b s' => b.1 = none ∧ s' = ⟨hp, g, d, tk, os⟩ ∧ ∃ i, rest = List.range' i (items.size - i) ∧ i ≤ k) _
    case turn =>
      rintro j rest b s' ⟨hb, rfl, i, hr, hi⟩
      have ee : items.size - i = (items.size - (i + 1)) + 1 := by omega
      rw [ee, List.range'_succ] at hr
      injection hr with q1 q2
      subst q1
      have hj : j < items.size := by omega
      rw [Array.getElem?_eq_getElem hj]
      refine wpAny_bind (he items[j] (Array.getElem_mem hj) prog w _ _ ?_)
      rcases Nat.lt_or_ge j k with hlt | hge
      · rw [h2 j hlt]
        wp_walk
        exact ⟨rfl, rfl, j + 1, q2, hlt⟩
      · obtain rfl : j = k := by omega
        rw [h1]
        wp_walk
        exact ⟨_, rfl, h⟩
    case fin =>
      rintro ⟨b1, b2⟩ s' ⟨hb, rfl, i, hr, hi⟩
      have ee : items.size - i = (items.size - (i + 1)) + 1 := by omega
      rw [ee, List.range'_succ] at hr
      cases hr
    case h =>
      exact ⟨rfl, rfl, 0, by simp, Nat.zero_le _⟩
end PySem.SeqAt
namespace L2.D
open PySem PySem.Spec PyProof.Rows PySem.SeqAt
section
variable {X : Cx} {κ : Kl} {pos p p2 apos : Pos} {a b c e : Expr} {fa fb : Den}
def eqText (x : Str) : Value → Bool
  | .str y _ => decide (y = x)
  | _ => false
theorem idx_vals {x : Str} : ∀ {ts : List Str} {us : List Value}, Vals (ts.map V.str) us → x ∈ ts → ∃ h : idxS x ts < us.length, eqText x us[idxS x ts] = true ∧ ∀ j (hj : j < idxS x ts), eqText x (us[j]'(Nat.lt_trans hj h)) = false
  | [], _, _, h => nomatch h
  | y :: ts, _, .cons ⟨t, ht⟩ r, h => by
    subst ht
    by_cases e : y = x
    · subst e
      have z : idxS y (y :: ts) = 0 := by unfold idxS; rw [if_pos rfl]
      refine ⟨by rw [z]; simp, ?_, fun j hj => by rw [z] at hj; omega⟩
      simp only [z]
      show decide (y = y) = true
      simp
    · have hx : x ∈ ts := (List.mem_cons.mp h).resolve_left fun z => e z.symm
      obtain ⟨h1, h2, h3⟩ := idx_vals r hx
      have z : idxS x (y :: ts) = idxS x ts + 1 := by
        show (if y = x then 0 else 1 + idxS x ts) = _
        rw [if_neg e, Nat.add_comm]
      refine ⟨by rw [z]; simpa using h1, ?_, fun j hj => ?_⟩
      · simp only [z]
        exact h2
      · cases j with
        | zero =>
          show decide (y = x) = false
          simpa using e
        | succ j =>
          rw [z] at hj
          exact h3 j (by omega)
theorem eqAt_text {A : Around} {s : Shared} {y x : Str} {t u : Tok} : EqAt A s (.str y t) (.str x u) (decide (y = x)) := fun prog w E Q h => wpAny_eqBool_str h
theorem vals_text {x : Str} : ∀ {ts : List Str} {us : List Value}, Vals (ts.map V.str) us → ∀ v ∈ us, ∃ y t, v = .str y t
  | [], _, .nil, v, h => nomatch h
  | y :: ts, _, .cons ⟨t, ht⟩ r, v, h => by
    rcases List.mem_cons.mp h with rfl | h
    · exact ⟨y, t, ht⟩
    · exact vals_text (x := x) r v h
theorem pe_index {ta : TE} {tb : TE} (ha : PE X a ta) (hb : PE X b tb) (hbase : attributeBase a "index" X.env (eval a X.env) = eval a X.env := by rfl)
    (hfew : ((backTo pos (starEach [b] X.env)).all (fun x => !x.1) && (backToKw pos (keywordEach [] X.env)).all (fun x => x.1.isSome)
      && decide ([b].length + ([] : List Keyword).length + (if ([] : List Keyword).isEmpty then 0 else 1) < 30)) = true := by rfl)
    (hline : (apos.endLine == pos.line) = true := by rfl) (hs : starEach [b] X.env = (false, eval b X.env) :: starEach [] X.env := by rfl) :
    PE X (.Call (.Attribute a "index" apos) [b] [] pos) (fun σ H Q => ta σ H fun x H1 => ∃ p ts, x = .ref p ∧ SqT X.K H1 p (ts.map V.str) ∧ tb σ H1 fun y H2 => ∃ z, [y] = [V.str z] ∧ SqT X.K H2 p (ts.map V.str) ∧ z ∈ ts ∧ Q (.int (idxS z ts : Nat)) H2) := by
  intro pins s σ H Q I h
  refine wpAny_Call_method_late hbase hfew hline rfl (thn (ha pins s σ H _ I h) fun v s1 ⟨x, H1, I1, r1, p, ts, ex, hq, q1⟩ => ?_)
  subst ex
  cases r1
  obtain ⟨its, rv, pl, hz⟩ := I1.tuple hq
  have nd := I1.tupleD hq
  refine ⟨"tuple", "tuple.index", PySem.F.plainAttrs_tuple, PySem.F.slot_tuple_index, PySem.F.type_tuple_index, (show s1.heap.IsTuple p its.toArray from pl).typeIs, fun a e => by cases e; exact nd, ?_⟩
  have hA := pa_cons hb pa_nil hs pos pins s1 σ H1 (fun vs H2 => ∃ z, vs = [.str z] ∧ SqT X.K H2 p (ts.map V.str) ∧ z ∈ ts ∧ Q (.int (idxS z ts : Nat)) H2) I1 q1
  rw [hs] at hA ⊢
  refine Calls.callWith_builtin (by rfl) (Calls.evalArgs_plain ?_)
  refine thn hA fun us s2 ⟨vs, H2, I2, r2, z, ez, hq2, hm, q2⟩ => ?_
  subst ez
  obtain ⟨u, rfl, t, rfl⟩ := vals1 r2
  obtain ⟨its2, rv2, ⟨⟨cls, dd, data, sl⟩, ho, hc, n, hd⟩, hz2⟩ := I2.tuple hq2
  simp only at hc hd
  subst hc hd
  obtain ⟨h1, h2, h3⟩ := idx_vals rv2 hm
  refine call_meets PySem.F.slot_tuple_index ⟨_, ho, rfl⟩ PySem.F.entry_tuple_index (PySem.F.args_tuple_index_2 _ _) (tuple_indexAt p its2.toArray n dd sl (.str z t) (eqText z) (idxS z ts) (by simpa using h1) (by simpa using h2) (fun j hj => by simpa using h3 j hj)) ⟨ho, fun y hy => ?_, ?_⟩
  · obtain ⟨y', t', rfl⟩ := vals_text (x := z) rv2 y (by simpa using hy)
    exact eqAt_text
  · exact ⟨.int _, H2, I2.tok _, ⟨_, rfl⟩, q2⟩
theorem de_index (ha : DB X κ a fa) (hb : DB X κ b fb) (hbase : attributeBase a "index" X.env (eval a X.env) = eval a X.env := by rfl)
    (hfew : ((backTo pos (starEach [b] X.env)).all (fun x => !x.1) && (backToKw pos (keywordEach [] X.env)).all (fun x => x.1.isSome)
      && decide ([b].length + ([] : List Keyword).length + (if ([] : List Keyword).isEmpty then 0 else 1) < 30)) = true := by rfl)
    (hline : (apos.endLine == pos.line) = true := by rfl) (hs : starEach [b] X.env = (false, eval b X.env) :: starEach [] X.env := by rfl) : DE X κ (.Call (.Attribute a "index" apos) [b] [] pos) (dBin gIndex fa fb) := by
  obtain ⟨ta, h1, h2⟩ := ha
  obtain ⟨tb, h3, h4⟩ := hb
  refine ⟨_, pe_index h1 h3 hbase hfew hline hs, fun {G A bo own ρ σ H p Q} r e q => ?_⟩
  obtain ⟨p1, e1, e2⟩ := Option.bind_eq_some_iff.mp e
  obtain ⟨p2, e3, e4⟩ := Option.bind_eq_some_iff.mp e2
  (cases p1 <;> first | (cases e4; done) | skip) <;> cases p2 <;> first | (cases e4; done) | skip
  obtain ⟨ts, e5, e6⟩ := Option.bind_eq_some_iff.mp e4
  obtain ⟨ok, rfl⟩ := ite_some e6
  refine h2 r e1 fun x H1 s1 b1 => ?_
  obtain ⟨a, vs, rfl, q1, q2⟩ := b1.tup hide_full
  have ev := strs_V q2 e5
  subst ev
  refine ⟨a, ts, rfl, q1, h4 (r.mono s1) e3 fun y H2 s2 b2 => ?_⟩
  rw [b2.str]
  exact ⟨_, rfl, sameT s2 q1, of_decide_eq_true ok, q _ H2 (s1.trans s2) (.int _)⟩
theorem pick_rev (its : Array Value) : (slicePick its none none (some (-1))).toList = its.toList.reverse := by
  have e0 : (slicePick its none none (some (-1))).toList = ((List.range (if (its.size : Int) - 1 > -1 then ((its.size : Int) - 1 - -1 - -1 - 1) / (- -1) else 0).toNat).map fun (k : Nat) => ((its.size : Int) - 1 + -1 * (k : Int)).toNat).filterMap (its[·]?) := rfl
  have ec : (if (its.size : Int) - 1 > -1 then ((its.size : Int) - 1 - -1 - -1 - 1) / (- -1) else 0).toNat = its.size := by
    have e1 : (- -1 : Int) = 1 := by decide
    rw [e1, Int.ediv_one]
    split <;> omega
  rw [e0, ec]
  have em : ((List.range its.size).map fun (k : Nat) => ((its.size : Int) - 1 + -1 * (k : Int)).toNat) = (List.range its.size).reverse := by
    have := List.reverse_range' (s := 0) (n := its.size)
    rw [List.range_eq_range'] at *
    rw [this]
    refine List.map_congr_left fun k _ => ?_
    omega
  rw [em, List.filterMap_reverse]
  have := pick_run its 0 its.size
  simp only [Nat.zero_add, List.map_id', List.drop_zero] at this
  rw [this, List.take_of_length_le (by simp)]
theorem pe_revL {te tc : TE} (he : PE X e te) (hc : PE X c tc) : PE X (.Subscript e (.Slice none none (some c) p2) pos) (fun σ H Q => te σ H fun x H1 => tc σ H1 fun z H2 => ∃ a xs, x = .ref a ∧ z = .int (-1) ∧ SqL X.K H2 a xs ∧ ∀ n, H2 n = none → Q (.ref n) (upd H2 n (.lst xs.reverse))) := by
  intro pins s σ H Q I h
  refine Subscript_ (thn (he pins s σ H _ I h) fun v s1 ⟨x, H1, I1, r1, q1⟩ => ?_)
  refine wpAny_Slice ?_
  rw [evalPart_none]
  refine wpAny_pure (wpAny_pure ?_)
  rw [evalPart_some]
  refine thn (hc pins s1 σ H1 _ I1 q1) fun u s3 ⟨z, H3, I3, r3, a, xs, ex, ez, hq, q⟩ => ?_
  subst ex ez
  cases r1
  obtain ⟨t', rfl⟩ := r3
  have I4 : Inv X pins σ H3 { s3 with heap := s3.heap.push { cls := .type "slice", data := .fields #[.none, .none, .int (-1) t'] } } := I3.kept (t' := s3.toks) fun b ob q => Heap.get?_push_of_some _ q
  obtain ⟨its, rv, pl, hz⟩ := I4.list hq
  have hlen := rv.length
  show wpAny (model X.prog X.w) X.A (subscriptTail e (.Slice none none (some c) p2) (.ref a) (.ref s3.heap.objs.size)) (EP X pins σ Q) X.xe { s3 with heap := s3.heap.push { cls := .type "slice", data := .fields #[.none, .none, .int (-1) t'] } }
  refine tail_any (ops := [.ref a, .ref s3.heap.objs.size]) (T := "list") pl.isList.typeIs slot_list_getitem.lookup ?_ (by with_unfolding_all rfl)
  refine wpAny_getItem_list_slice pl.isList (Heap.IsSliceOf.new ..) .none .none (.int (-1) t') (by simp) ?_ (by rw [List.size_toArray] <;> omega)
  refine ⟨.ref _, _, I4.laid (t' := s3.toks) (o := .lst xs.reverse) (fun b ob q => Heap.get?_push_of_some _ q) (Nat.le_refl _) ?_, rfl, q _ (I4.hok.fresh (Nat.le_refl _))⟩
  refine ⟨by rw [List.length_reverse]; exact hz, its.reverse, 0, rv.reverse, ?_⟩
  have e1 : slicePick its.toArray none none (some (-1)) = its.reverse.toArray := by
    apply Array.toList_inj.mp
    rw [pick_rev]
  rw [← e1]
  exact Heap.get?_push_size _ rfl
theorem Reps.rev {K : PySem.W.Frag} {H : Hp} {vs : List V} {l : List PV} (h : Reps K κ H vs l) : Reps K κ H vs.reverse l.reverse := by
  cases h with
  | nil => exact .nil
  | cons r t =>
    rw [List.reverse_cons, List.reverse_cons]
    exact (Reps.rev t).append (.cons r .nil)
theorem do_revL (ha : DB X κ a fa) (hc : DB X κ c (dUn gNeg (dC (.int 1)))) : DO X κ (.Subscript a (.Slice none none (some c) p2) pos) (dUn gRevL fa) := by
  obtain ⟨ta, h1, h2⟩ := ha
  obtain ⟨tc, h3, h4⟩ := hc
  refine ⟨_, pe_revL h1 h3, fun {G A bo own ρ σ H p Q} r e q => ?_⟩
  obtain ⟨p1, e1, e2⟩ := Option.bind_eq_some_iff.mp e
  refine h2 r e1 fun x H1 s1 b1 => h4 (r.mono s1) (p := .int (-1)) rfl fun z H2 s2 b2 => ?_
  cases p1 <;> first | (cases e2; done) | skip
  cases e2
  have s12 := s1.trans s2
  obtain ⟨a, vs, rfl, q1, q2⟩ := (b1.mono' s2).lst hide_full
  refine ⟨a, vs, rfl, b2.int, q1.sq, fun n hn => q _ _ (s12.trans (same_upd hn)) ?_⟩
  obtain ⟨a, ws, l, w1, w2, w3, w4⟩ := (r.mono s12).newO hn q2.rev
  refine ⟨a, ws, l, w1, w2, ?_, w4⟩
  cases w1
  exact s12.free hn
end
end L2.D
set_option Elab.async false
set_option linter.all false
set_option maxRecDepth 100000
set_option maxHeartbeats 1000000
set_option Elab.async false
set_option linter.all false
set_option maxRecDepth 100000
set_option maxHeartbeats 1000000
set_option Elab.async false
set_option linter.all false
set_option maxRecDepth 100000
set_option maxHeartbeats 1000000
set_option Elab.async false
set_option linter.all false
set_option maxRecDepth 100000
set_option maxHeartbeats 1000000
namespace L2.D
open PySem PySem.Spec PyProof.Rows PySem.SeqAt
section
variable {X : Cx} {κ : Kl} {a : Expr} {fa : Den} {pos p1 p2 : Pos} {k : Nat}
theorem pe_fr {ta : TE} {c : Str} (ha : PE X a ta) (hs : evalEach [.FormattedValue a 114 none p1, .Constant (.str c) k p2] X.env = [eval (.FormattedValue a 114 none p1) X.env, eval (.Constant (.str c) k p2) X.env] := by rfl) :
    PE X (.JoinedStr [.FormattedValue a 114 none p1, .Constant (.str c) k p2] pos) (fun σ H Q => ta σ H fun x H1 => ∃ i, x = .str i ∧ (reprText i).length + c.length ≤ 100000 ∧ ∀ out, Q (.str out) H1) := by
  intro pins s σ H Q I h
  have zl : (100000 : Nat) ≤ sizeLine := by decide
  refine wpAny_JoinedStr ?_
  rw [hs]
  refine wpAny_FormattedValue_repr (thn (ha pins s σ H _ I h) fun v s1 ⟨x, H1, I1, r1, i, ex, hz, q⟩ => ?_)
  subst ex
  obtain ⟨t, rfl⟩ := r1
  refine wpAny_pyReprObj_str ?_ (by omega)
  have e0 : (Str.empty : Str).length = 0 := rfl
  have fin : ∀ (s' : Shared), Inv X pins σ H1 s' → Joins (model X.prog X.w) X.A X.xe [eval (.Constant (.str c) k p2) X.env] (Str.empty ++ reprText i) (fun out s₁ => out.length ≤ sizeLine ∧ EP X pins σ Q (.str out s₁.toks) { s₁ with toks := s₁.toks + 1 }) s' := fun s' I' => by
    show wpAny _ _ (eval (.Constant (.str c) k p2) X.env) _ _ s'
    refine thn (pe_str (X := X) (x := c) pins s' σ H1 (fun x H2 => x = .str c ∧ H2 = H1) I' ⟨rfl, rfl⟩) fun v s2 ⟨y, H2, I2, r2, ey, eH⟩ => ?_
    subst ey eH
    obtain ⟨t2, rfl⟩ := r2
    have hl : (Str.empty ++ reprText i ++ c).length ≤ sizeLine := by
      rw [strLen_append, strLen_append, e0]
      omega
    exact ⟨c, t2, rfl, hl, hl, .str _, _, I2.tok _, ⟨_, rfl⟩, q _⟩
  have hl : (Str.empty ++ reprText i).length ≤ sizeLine := by
    rw [strLen_append, e0]
    omega
  exact wpAny_formatField_str ⟨_, _, rfl, hl, fin _ (I1.tok _)⟩ ⟨_, _, rfl, hl, fin _ ((I1.tok _).tok _)⟩ (by omega)
end
end L2.D
set_option Elab.async false
set_option linter.all false
set_option maxRecDepth 100000
set_option maxHeartbeats 1000000
namespace L2.D
open PySem PySem.Spec PyProof.Rows PySem.SeqAt
abbrev bmV : List Value := [.type "ValueError", .type "Exception", .type "BaseException", .type "object"]
def ExCls (K : PySem.W.Frag) (C : Addr) : Prop := ∀ h : Heap, K.In h → ∃ (nm q : Str) (N : Addr) (bs bm : List Value) (hdct : Bool) (sn : List Str) (sub : List Value) (ab : Bool) (col : Option Bool) (dd : Option Addr) (k0 k1 k2 k3 k5 : Option Value) (mN : Str → Option Value),
  bm.contains (.type "BaseException") = true ∧ mN "__init__" = none ∧ h.get? C = some (excClassObj nm q C N bs bm hdct sn sub ab col dd k0 k1 k2 k3 k5 "ValueError.__new__") ∧ h.Ns N mN ∧ OwnTail h bmV bm
theorem ExCls.of {K : PySem.W.Frag} {C : Addr} (q : PySem.W.excIn K C bmV "ValueError.__new__" = true) : ExCls K C := fun h X => by
  unfold PySem.W.excIn at q
  split at q
  case h_2 => cases q
  rename_i dx cd slots at_
  split at q
  case h_2 => cases q
  rename_i D tl a0 a1 a2 a3 b a5 emro esl
  simp only [Bool.and_eq_true, beq_iff_eq, Bool.not_eq_true'] at q
  obtain ⟨⟨⟨⟨⟨same, isnew⟩, nodel⟩, tail⟩, nsok⟩, noinit⟩ := q
  subst same isnew
  cases cd
  simp only at emro nodel nsok noinit
  subst emro nodel
  have es : slots = #[a0, a1, a2, a3, some (.builtin "ValueError.__new__"), a5] := by rw [← esl]
  subst es
  have T := PySem.W.tail_of_in (bmB := bmV) X tail
  exact ⟨_, _, _, _, _, _, _, _, _, _, _, _, _, _, _, _, _, T.hasType (by decide +kernel), PySem.W.nsMap_none_of_in X nsok noinit, X _ _ at_, .of_isNs (PySem.W.isNs_of_in X nsok), T⟩
section
variable {X : Cx} {κ : Kl} {a : Expr} {fa : Den} {pos np cpos : Pos} {x : Str} {C : Addr} {P : Hp → Prop}
theorem ps_raise {ta : TE} (hC : ExCls X.K C) (hm : X.mg x = some (.ref C)) (ha : PE X a ta) (hx : ∀ pins σ H s v h' e, Inv X pins σ H s → Heap.MadeExcOf s.heap h' e (.ref C) [v] → P H → X.xe (.ref e) { s with heap := h' })
    (hg : Gl X x := by rfl) (hc : X.calm = true := by rfl) (hd : (x == ("__debug__" : Str)) = false := by decide) (hs : starEach [a] X.env = (false, eval a X.env) :: starEach [] X.env := by rfl) (hpl : (backTo cpos (starEach [a] X.env)).any (·.1) = false := by rfl) :
    PS X (.Raise (some (.Call (.Name x np) [a] [] cpos)) none pos) (fun D σ H => ta σ H fun v H1 => ∃ y, [v] = [y] ∧ P H1) := by
  intro pins s σ H D I h
  obtain ⟨nm, q, N, bs, bm, hdct, sn, sub, ab, col, dd, k0, k1, k2, k3, k5, mN, hb, hni, c1, c2, c3⟩ := hC X.base I.ok.mod.kin
  refine wpAny_Raise_call_subU (C := C) (nm := nm) (q := q) (N := N) (bs := bs) (bm := bm) (hdct := hdct) (sn := sn) (sub := sub) (ab := ab) (col := col) (dd := dd) (k0 := k0) (k1 := k1) (k2 := k2) (k3 := k3) (k5 := k5) PySem.F.excBase_ValueError (bmB := bmV) (by decide +kernel) PySem.F.excBase_ValueError (mN := mN) hb (I.ok.hd hc) hpl hni ?_
  refine ld_glob I hg hm ⟨rfl, ?_⟩ hd
  have hA := pa_cons ha pa_nil hs cpos pins s σ H (fun vs H1 => ∃ y, vs = [y] ∧ P H1) I h
  rw [hs] at hA ⊢
  refine Calls.evalArgs_plain ?_
  refine thn hA fun us s2 ⟨vs, H2, I2, r2, y, ey, q2⟩ => ?_
  subst ey
  obtain ⟨u, rfl, ru⟩ := vals1 r2
  have zl : (1 : Nat) ≤ sizeLine := by decide
  exact ⟨rfl, zl, I2.bk _ _ c1, c2.keeps I2.bk, c3.keeps I2.bk, fun h' e hm' => hx pins σ H2 s2 u h' e I2 hm' q2⟩
end
end L2.D
set_option Elab.async false
set_option linter.all false
set_option maxRecDepth 100000
set_option maxHeartbeats 1000000
namespace L2.D
open PySem PySem.W PySem.Spec PySem.Calls PyProof.Rows Builtin Builtin.ObjectAttr Builtin.Getset_descriptor
structure XCls (K : Frag) (C : Addr) : Prop where
  ga : findIn K (.ref C) "__getattribute__" = some (some (.builtin "BaseException.__getattribute__"))
  gh : findIn K (.ref C) "__getattr__" = some none
  ca : findIn K (.ref C) "__class__" = some (some (.builtin "object.__class__"))
  hn : specialIn K (.builtin "object.__class__") "__get__" = some (some (.builtin "getset_descriptor.__get__"))
  htk : takesIn K (.builtin "object.__class__") = some true
  hm : mroIn K C (.type "object") = some true
  hb : mroIn K C (.type "BaseException") = some true
  hc : (clsIn K C).isSome = true
def XAt (C a : Addr) (h : Heap) : Prop := ∃ o, h.get? a = some o ∧ o.cls = .ref C
theorem XAt.type {M : Model} {h : Heap} {C a : Addr} (I : XAt C a h) : Looks M h (typeOf (.ref a)) (.ref C) := by
  obtain ⟨o, h1, h2⟩ := I
  rw [← h2]
  exact (Looks.ld h1).andThen .now
theorem looks_data {K : Frag} {M : Model} {h : Heap} (X : K.In h) {x t a g : Value} {name : Str} (ha : findIn K t name = some (some a)) (hg : specialIn K a "__get__" = some (some g)) (ht : takesIn K a = some true) : Looks M h (find x t name) (.bind g a) :=
  (looks_findIn (M := M) X ha).andThen ((show Looks M h (getOf (some a)) (some g) from looks_specialIn X hg).andThen
    ((show Looks M h (dataDescriptor? (some a) (some g)) (some (g, a)) from (looks_takesIn (M := M) X ht).andThen .now).andThen (Looks.tag .now)))
section
variable {prog : Program} {w : World} {A : Around} {E : Value → Shared → Prop} {s : Shared} {K : Frag} {x C : Addr}
theorem xcls_get {tp : Value} {R : Result → Shared → Prop} (X : K.In s.heap) (I : XAt C x s.heap) (hm : mroIn K C (.type "object") = some true)
    (told : R (.ok (.ret (.ref C))) s) : codeAny (model prog w) A (.call (.builtin "getset_descriptor.__get__") ⟨[.builtin "object.__class__", .ref x, tp], []⟩) R s := by
  obtain ⟨h0, gs, dw, tks, osS⟩ := s
  have lTy := I.type (M := model prog w)
  have lOne := looks_mroIn (M := model prog w) X hm
  refine codeAny_call_builtin KF.slot_gs.plain KF.entry_gs ?_
  refine KF.slot_gs.check _ _ _ _ _ _ _ _ KF.type_class (KF.args_gs _ _ _) ?_
  unfold Builtin.«getset_descriptor.__get__» descrGet; rw [dga_obj]; refine wpAny_bind (wpAny_pure ?_)
  unfold descrGetter descrCheckInstance descrNameAndClass isInstance; simp only [KF.owner_class]
  repeat lk
  refine ⟨Code.quiet_builtin _ (by decide +kernel), ?_⟩
  refine codeAny_builtin KF.entry_class ?_; unfold Builtin.«object.__class__» shownTypeOf
  repeat lk
  exact told
theorem xcls_entry {tk : Tok} {Q : Fin → Shared → Prop} (Z : XCls K C) (X : K.In s.heap) (I : XAt C x s.heap) (h : Q (.done (.ret (.ref C))) s) :
    wpAny (model prog w) A (Builtin.«object.__getattribute__» ⟨[.ref x, .str "__class__" tk], []⟩) Q E s := by
  obtain ⟨h0, gs, dw, tks, osS⟩ := s
  have lTy := I.type (M := model prog w)
  have lOne := looks_data (M := model prog w) (x := .ref x) X Z.ca Z.hn Z.htk
  unfold Builtin.«object.__getattribute__»; refine wpAny_bind (wpAny_pure (wpAny_bind (wpAny_pure (wpAny_bind (lTy.at (wpAny_bind (lOne.at ?_)))))))
  unfold bindTo
  refine wpAny_bind (wpAny_holding (wpAny_call (xcls_get X I Z.hm ?_)))
  exact wpAny_pure h
theorem xcls_check {M : Model} {nameV : Value} {Q : Unit → Shared → Prop} (Z : XCls K C) (X : K.In s.heap) (I : XAt C x s.heap) (hq : Q () s) : wpAny M A (checkBuiltinCall "BaseException.__getattribute__" ⟨[.ref x, nameV], []⟩) Q E s := by
  obtain ⟨h0, gs, dw, tks, osS⟩ := s
  have kd : builtinKind "BaseException.__getattribute__" = some .slot := by decide +kernel
  have sp : splitId "BaseException.__getattribute__" = some ("BaseException", "__getattribute__") := by decide +kernel
  have lTy := I.type (M := M)
  have lOne := looks_mroIn (M := M) X Z.hb
  have LI : Looks M h0 (isInstance (.ref x) (.type "BaseException")) true := lTy.andThen lOne
  have ha := PySem.F.args_bexc_ga (.ref x) nameV
  simp only [checkBuiltinCall, kd, sp]
  refine wpAny_bind (LI.at ?_)
  repeat (first | wp_step)
  exact hq
theorem xcls_attr {Q : Option Value → Shared → Prop} (Z : XCls K C) (X : K.In s.heap) (I : XAt C x s.heap) (h : Q (some (.ref C)) { s with toks := s.toks + 1 }) : wpAny (model prog w) A (getAttr? (.ref x) "__class__") Q E s := by
  obtain ⟨h0, gs, dw, tks, osS⟩ := s
  have lTy := I.type (M := model prog w)
  have lOne := looks_findIn (M := model prog w) X Z.ga
  have lTwo := looks_findIn (M := model prog w) X Z.gh
  have f3 := PySem.F.excAttr_ValueError.ga.bind (.ref x)
  unfold getAttr? getAttrBy? getAttrBy; refine wpAny_bind (wpAny_mkText (wpAny_bind (wpAny_attempt (wpAny_holding (wpAny_bind (lTy.at (wpAny_bind (lOne.at ?_))))))))
  have hx2 : (onTheHeap (Value.ref C) && Value.builtin "BaseException.__getattribute__" == Value.builtin "object.__getattribute__") = false := by
    rw [show (Value.builtin "BaseException.__getattribute__" == Value.builtin "object.__getattribute__") = false from by decide +kernel]
    exact Bool.and_false _
  dsimp only
  rw [hx2]
  unfold getAttrByItsOwn hookBefore
  refine wpAny_bind (lTwo.at ?_)
  refine wpAny_bind (wpAny_attempt (wpAny_holding ?_)); unfold callGetattribute boundAndCalled
  rw [if_neg (by simp), f3]
  refine wpAny_bind (wpAny_pure (wpAny_call ?_))
  refine codeAny_call_builtin PySem.F.excAttr_ValueError.ga.plain PySem.F.entry_bexc_ga (xcls_check Z X I (xcls_entry (s := ⟨h0, gs, dw, tks + 1, osS⟩) Z X I ?_))
  refine wpAny_pure ?_
  exact wpAny_pure h
end
theorem looks_isT {K : Frag} {M : Model} {h : Heap} {D : Addr} (X : K.In h) (hc : (clsIn K D).isSome = true) : Looks M h (isType (.ref D)) true := by
  obtain ⟨cd, e⟩ := Option.isSome_iff_exists.mp hc
  unfold clsIn at e
  split at e
  · rename_i ob
    intro _ _ _ _ kp q
    unfold isType loadHead
    refine wpAny_bind (wpAny_loadPart (kp _ _ (X _ _ ob)) ?_)
    exact wpAny_pure q
  · cases e
theorem kitx_exc {K : Frag} {x C : Addr} (Z : XCls K C) : KitX K (.ref x) (.ref C) (XAt C x) where
  ty := fun _ _ _ I => I.type
  it := fun _ _ X _ => looks_isT X Z.hc
  ne := fun _ tp _ _ _ _ X at_ => by
    obtain ⟨cd, e⟩ := Option.isSome_iff_exists.mp Z.hc
    cases hq : (Value.ref C == Value.ref tp) with
    | false => rfl
    | true =>
      have ct : C = tp := Value.ref.inj (beq_iff_eq.mp hq)
      subst ct
      unfold clsIn at e
      split at e
      · rename_i ob
        cases (X _ _ ob).symm.trans at_
      · cases e
  ca := fun X I k => xcls_attr Z X I k
theorem matches_exc {K : Frag} {M : Model} {A : Around} {E : Value → Shared → Prop} {s : Shared} {C D e : Addr} {Q : Bool → Shared → Prop} (X : K.In s.heap) (I : XAt C e s.heap) (h1 : instIn K (.ref D) (.type "tuple") = some false) (h2 : (clsIn K D).isSome = true) (h3 : mroIn K D (.type "BaseException") = some true) (h4 : mroIn K C (.ref D) = some true)
    (hq : Q true s) : wpAny M A (excMatches (.ref e) (.ref D)) Q E s := by
  obtain ⟨h0, gs, dw, tks, osS⟩ := s
  have lTy := I.type (M := M)
  have lOne := looks_instIn (M := M) X h1
  have lTwo := looks_isT (M := M) X h2
  have L3 := looks_mroIn (M := M) X h3
  have L4 := looks_mroIn (M := M) X h4
  unfold excMatches isExcClass
  repeat lk
  all_goals first | exact hq | skip
end L2.D
set_option Elab.async false
set_option linter.all false
set_option maxRecDepth 100000
set_option maxHeartbeats 1000000
namespace L2.D
open PySem PySem.Spec PyProof.Rows PySem.SeqAt
open Classical
def xo (C a : Addr) : HO := .ext (XAt C a)
theorem xo_ok {P : Program} {w : World} {H : Hp} {h : Heap} {C a : Addr} (x : XAt C a h) : ObjOk P w H h a (xo C a) := by
  obtain ⟨o, h1, h2⟩ := x
  exact ⟨⟨o, h1, h2⟩, ⟨o, h1⟩, fun g1 g2 ⟨o', q1, q2⟩ k => ⟨o', k o' q1, q2⟩⟩
theorem xo_at {P : Program} {w : World} {H : Hp} {h : Heap} {C a : Addr} (x : ObjOk P w H h a (xo C a)) : XAt C a h := x.1
theorem there_of {P : Program} {w : World} {H : Hp} {h : Heap} {a : Addr} {o : HO} (x : ObjOk P w H h a o) : ∃ ob, h.get? a = some ob := by
  cases o with
  | lst xs => obtain ⟨_, _, _, _, e⟩ := x; exact ⟨_, e⟩
  | tup xs => obtain ⟨⟨_, ob, e, _⟩, _⟩ := x; exact ⟨_, e⟩
  | dK kvs => obtain ⟨_, _, _, _, o, _, _, e, _⟩ := x; exact ⟨_, e⟩
  | dT kvs => obtain ⟨_, _, _, _, o, _, _, e, _⟩ := x; exact ⟨_, e⟩
  | set S n => obtain ⟨o, _, _, _, e, _⟩ := x; exact ⟨_, e⟩
  | ins C dx fs => obtain ⟨_, _, _, e, _⟩ := x; exact ⟨_, e⟩
  | own y => obtain ⟨_, e⟩ := x; exact ⟨_, e⟩
  | xd fs => obtain ⟨_, ⟨_, _, _, e, _⟩, _⟩ := x; exact ⟨_, e⟩
  | rng lo hi => obtain ⟨_, _, _, e⟩ := x; exact ⟨_, e⟩
  | frz ob u => obtain ⟨e, _⟩ := x; exact ⟨_, e⟩
  | tbl ps => exact ⟨_, (show h.get? a = some _ from x)⟩
  | met f y => exact ⟨_, (show h.get? a = some _ from x)⟩
  | ext φ => obtain ⟨_, e, _⟩ := x; exact e
structure Cg (P : Program) (w : World) (outer : List Env) (H : Hp) (s : Shared) (C e t : Addr) (s' : Shared) (H' : Hp) (B : Heap) : Prop where
  os : s'.os = s.os
  bare : AllBare s'.gens
  un : Un (frs outer) [] H H' s.heap s'.heap
  hok : HOk P w H' s'.heap
  fly : Heap.FlyingW B outer e (.ref C) (.ref t) s'.heap
  kp : ∀ b o, s.heap.get? b = some o → H b = none → b ∉ frs outer → B.get? b = some o
  th : ∀ b o, s.heap.get? b = some o → b ∉ frs outer → ∃ o', B.get? b = some o'
  tr : ∀ b u, H' b = some u → ∃ o', B.get? b = some o'
def CXr (P : Program) (w : World) : CXT := fun outer H s E e s' => ∃ (a C t : Addr) (H' : Hp) (B : Heap), e = .ref a ∧ Cg P w outer H s C a t s' H' B ∧ E (.ref C) none H'
theorem nmem {env : Env} {outer : List Env} {b : Addr} (h : b ∉ frs (env :: outer)) : b ∉ frs outer := fun z => h (by
  unfold frs at z ⊢
  rw [List.filterMap_cons]
  split
  · exact z
  · exact List.mem_cons_of_mem _ z)
section
variable {P : Program} {w : World} {K : PySem.W.Frag} {mg : Str → Option Value} {base : Heap} {N : List Str} {qual : Str} {scope : Scope} {f : Addr} {cdv : Value} {A : Around} {outer : List Env} {s₀ : Shared} {H₀ : Hp} {E : XK}
theorem leave_ex {pins : List (Addr × Obj)} {σ : St} {H : Hp} {s : Shared} {v : Value} {h' : Heap} {e C : Addr} (I : Inv (cxOf (CXr P w) P w K mg base N qual scope f cdv A outer s₀ H₀ E) pins σ H s) (hm : Heap.MadeExcOf s.heap h' e (.ref C) [v]) (hE : E (.ref C) none H) :
    (cxOf (CXr P w) P w K mg base N qual scope f cdv A outer s₀ H₀ E).xe (.ref e) { s with heap := h' } := by
  have FF := I.stack
  have Fr := I.ok.frames
  have sf := I.stkFree
  change s.heap.FunFrames base (envOfC qual scope s₀.heap.objs.size f cdv :: outer) at FF
  change (A.deeper (envOfC qual scope s₀.heap.objs.size f cdv)).frames = some (envOfC qual scope s₀.heap.objs.size f cdv :: outer) at Fr
  change ∀ b ∈ frs (envOfC qual scope s₀.heap.objs.size f cdv :: outer), H b = none at sf
  show wpAny (model P w) (A.deeper (envOfC qual scope s₀.heap.objs.size f cdv)) (leaving (envOfC qual scope s₀.heap.objs.size f cdv) (.ref e)) (fun _ s'' => CXr P w outer H₀ s₀ E (.ref e) s'') _ { s with heap := h' }
  generalize hen : envOfC qual scope s₀.heap.objs.size f cdv = env at FF Fr sf ⊢
  have hf : env.frame = some s₀.heap.objs.size := by rw [← hen]; rfl
  have mem : ∀ b, b ∈ frs (env :: outer) → b = s₀.heap.objs.size ∨ b ∈ frs outer := fun b hb => by
    unfold frs at hb
    rw [List.filterMap_cons, hf] at hb
    exact List.mem_cons.mp hb
  refine wpAny_leaves_madeW (base := PySem.W.hideAll s.heap (frs (env :: outer))) (h := s.heap) (env := env) (outer := outer) (L := s₀.heap.objs.size) Fr hf (fun b o q => PySem.W.of_hideAll _ q) (PySem.W.funFrames_hide FF fun en hen' b hb => List.mem_filterMap.mpr ⟨en, hen', hb⟩) hm fun h2 t x1 x2 x3 x4 => ?_
  have B1 : ∀ b o, s.heap.get? b = some o → b ∉ frs (env :: outer) → (PySem.W.hideAll s.heap (frs (env :: outer))).get? b = some o := fun b o q n => PySem.W.hideAll_get _ q n
  have up : ∀ b o, s.heap.get? b = some o → b ∈ frs (env :: outer) → ∃ sl, h2.get? b = some { o with slots := sl } := fun b o q n => by
    obtain ⟨_, o', q', hd⟩ := FF.mem n
    rw [q] at q'
    cases q'
    exact x4 b o (hm.keeps b o q) hd
  have out : ∀ b o, s₀.heap.get? b = some o → b ∉ frs outer → b ∉ frs (env :: outer) := fun b o q n z => by
    rcases mem b z with rfl | z
    · exact absurd (Heap.lt_size q) (Nat.lt_irrefl _)
    · exact n z
  have inn : ∀ b, b ∈ frs outer → b ∈ frs (env :: outer) := fun b hb => Classical.byContradiction fun z => nmem z hb
  have bk := I.base.keep
  have bs := I.base.slot
  have bf := I.base.free
  have bt := I.base.there
  change ∀ b o, s₀.heap.get? b = some o → H₀ b = none → b ∉ frs outer → b ∉ [] → s.heap.get? b = some o at bk
  change ∀ b o, s₀.heap.get? b = some o → H₀ b = none → b ∈ frs outer → b ∉ [] → ∃ sl, s.heap.get? b = some { o with slots := sl } at bs
  change ∀ b o, s₀.heap.get? b = some o → b ∉ [] → ∃ o', s.heap.get? b = some o' at bt
  have tk : ∀ b u, H b = some u → b ∉ frs (env :: outer) := fun b u q z => by rw [sf b z] at q; cases q
  refine ⟨e, C, t, H, _, rfl, ⟨I.os, I.bare, ⟨fun b o q n hb hx => ?_, fun b o q n hb hx => ?_, bf, fun b o q hx => ?_, I.base.tups, I.base.frzs, I.base.tbls⟩, fun b u q => ?_, x1, fun b o q n hb => ?_, fun b o q hb => ?_, fun b u q => ?_⟩, hE⟩
  · exact x1.1 b o (B1 b o (bk b o q n hb hx) (out b o q hb))
  · obtain ⟨sl, q1⟩ := bs b o q n hb hx
    obtain ⟨sl', q2⟩ := up b _ q1 (inn b hb)
    exact ⟨sl', q2⟩
  · obtain ⟨o', q1⟩ := bt b o q hx
    by_cases hb : b ∈ frs (env :: outer)
    · obtain ⟨sl, q2⟩ := up b o' q1 hb
      exact ⟨_, q2⟩
    · exact ⟨o', x1.1 b o' (B1 b o' q1 hb)⟩
  · refine (I.hok b u q).stay (fun c v hc z => ?_) (fun _ z => z) fun _ _ z => z
    have : c ∉ frs (env :: outer) := by
      rcases hc with rfl | hc
      · exact tk c u q
      · exact tk c _ hc
    exact x1.1 c v (B1 c v z this)
  · exact B1 b o (bk b o q n hb (by simp)) (out b o q hb)
  · obtain ⟨o', q1⟩ := bt b o q (by simp)
    exact ⟨o', B1 b o' q1 (out b o q hb)⟩
  · obtain ⟨o', q1⟩ := there_of (I.hok b u q)
    exact ⟨o', B1 b o' q1 (tk b u q)⟩
end
section
variable {X : Cx} {pins : List (Addr × Obj)} {σ : St} {H1 H' : Hp} {s1 s' : Shared} {C e t : Addr} {B : Heap}
theorem caught (I : Inv X pins σ H1 s1) (G : Cg X.prog X.w X.stack H1 s1 C e t s' H' B) {h3 : Heap} (sB : ∀ b o, B.get? b = some o → h3.get? b = some o) (up : s'.heap.UpToSlots h3) (he : XAt C e h3) (tk : Nat) :
    H' e = none ∧ Inv X pins σ (upd H' e (xo C e)) { s' with heap := h3, toks := tk } := by
  obtain ⟨f1, f2, f3, f4⟩ := G.fly
  have FF := I.stack
  have ne : H' e = none := by
    cases q : H' e with
    | none => rfl
    | some u =>
      obtain ⟨o', z⟩ := G.tr e u q
      rw [f2] at z
      cases z
  have new : s1.heap.get? e = none := by
    cases q : s1.heap.get? e with
    | none => rfl
    | some o =>
      by_cases hb : e ∈ frs X.stack
      · obtain ⟨_, o', q', hd⟩ := f3.mem hb
        obtain ⟨oe, vs, T, oT, ts, z1, _, z2, _⟩ := f4
        rw [q'] at z1
        cases z1
        exact absurd z2 (hd vs)
      · obtain ⟨o', z⟩ := G.th e o q hb
        rw [f2] at z
        cases z
  have slot : ∀ b o, s1.heap.get? b = some o → H1 b = none → b ∈ frs X.stack → ∃ sl, h3.get? b = some { o with slots := sl } := fun b o q n hb => by
    obtain ⟨sl, q1⟩ := G.un.slot b o q n hb (by simp)
    obtain ⟨_, o', q', hd⟩ := FF.mem hb
    rw [q] at q'
    cases q'
    obtain ⟨sl', q2⟩ := up b _ q1 hd
    exact ⟨sl', q2⟩
  have neq : ∀ b u, H' b = some u → b ≠ e := fun b u q z => by rw [z, ne] at q; cases q
  refine ⟨ne, I.call' (s' := { s' with heap := h3, toks := tk }) (ch := []) G.os ⟨fun b o q n hb _ => sB b o (G.kp b o q n hb), fun b o q n hb _ => slot b o q n hb, fun b o q n _ => ?_, fun b o q _ => ?_, fun b xs q => ?_, fun b o u q => ?_, fun b ps q => ?_⟩ (fun b u q => ?_) G.bare (fun b z => absurd z (by simp))⟩
  · rw [upd_ne fun z => by rw [z, new] at q; cases q]
    exact G.un.free b o q n (by simp)
  · by_cases hb : b ∈ frs X.stack
    · obtain ⟨sl, z⟩ := slot b o q (I.stkFree b hb) hb
      exact ⟨_, z⟩
    · obtain ⟨o', z⟩ := G.th b o q hb
      exact ⟨o', sB b o' z⟩
  · have z := G.un.tups b xs q
    rw [upd_ne (neq b _ z)]
    exact z
  · have z := G.un.frzs b o u q
    rw [upd_ne (neq b _ z)]
    exact z
  · obtain ⟨more, z⟩ := G.un.tbls b ps q
    exact ⟨more, by rw [upd_ne (neq b _ z)]; exact z⟩
  · by_cases hb : b = e
    · subst hb
      rw [upd_same] at q
      cases q
      exact xo_ok he
    · rw [upd_ne hb] at q
      refine (G.hok b u q).stay (fun c v hc z => ?_) (fun c z => by rw [upd_ne (neq c _ z)]; exact z) fun c xs z => by rw [upd_ne (neq c _ z)]; exact z
      obtain ⟨o', z1⟩ : ∃ o', B.get? c = some o' := by
        rcases hc with rfl | hc
        · exact G.tr c u q
        · exact G.tr c _ hc
      have z2 := f1 c o' z1
      rw [z] at z2
      cases z2
      exact sB c v z1
theorem del_ok {H : Hp} {s : Shared} {M : Model} {A : Around} {E : Value → Shared → Prop} {i : Nat} {x : Str} {pos : Pos} {Q : Unit → Shared → Prop} (I : Inv X pins σ H s) (hN : X.N.Nodup) (hi : X.N[i]? = some x) (hl : X.env.scope.names.lookup x = some .local)
    (h : ∀ s', Inv X pins (σ.set i none) H s' → Q () s') : wpAny M A (do bindName X.env x .none; unbindBehindTheSuite X.env x pos) Q E s := by
  obtain ⟨m, hn, hlo⟩ := id I.loc
  refine wpAny_nameGoes_keeps hl hn (by rw [I.ok.kind]; rfl) fun h' v hn' hs => ?_
  have lt : ∀ b o, X.s₀.heap.get? b = some o → b ≠ X.env.locals := fun b o e => Nat.ne_of_lt (Nat.lt_of_lt_of_le (Heap.lt_size e) I.ok.above)
  refine h _ ⟨I.ok, I.os, I.bare, ⟨fun b o q n hb hx => ?_, fun b o q n hb hx => ?_, I.base.free, fun b o q hx => ?_, I.base.tups, I.base.frzs, I.base.tbls⟩, ⟨_, hn', fun j y v' e1 e2 e3 => ?_⟩, fun y c q => ?_, I.free, I.freeC, fun p hp => ?_, fun b u q => ?_, by rw [List.length_set]; exact I.len⟩
  · exact (hs.2 b (lt b o q)).trans (I.base.keep b o q n hb hx)
  · obtain ⟨sl, z⟩ := I.base.slot b o q n hb hx
    exact ⟨sl, (hs.2 b (lt b o q)).trans z⟩
  · obtain ⟨o', z⟩ := I.base.there b o q hx
    exact ⟨o', (hs.2 b (lt b o q)).trans z⟩
  · by_cases hj : j = i
    · subst hj
      rw [List.getElem?_set] at e2
      rw [if_pos rfl] at e2
      split at e2 <;> cases e2
    · rw [List.getElem?_set_ne (Ne.symm hj)] at e2
      obtain ⟨u, r, q⟩ := hlo j y v' e1 e2 e3
      have hyx : y ≠ x := fun z => hj (nodup_ix hN (z ▸ e1) hi)
      refine ⟨u, r, ?_⟩
      rcases q with ⟨k, q⟩ | ⟨k, c, q1, q2⟩
      · exact .inl ⟨k, by show (if y = x then v else m y) = some u; rw [if_neg hyx]; exact q⟩
      · exact .inr ⟨k, c, q1, q2.sameBut hs (I.cne y c q1)⟩
  · obtain ⟨v, z⟩ := I.cell y c q
    exact ⟨v, z.sameBut hs (I.cne y c q)⟩
  · obtain ⟨p1, p2, p3, p4, p5⟩ := I.pin p hp
    exact ⟨(hs.2 _ p3).trans p1, p2, p3, p4, p5⟩
  · refine (I.hok b u q).stay (fun c v hc z => (hs.2 c ?_).trans z) (fun _ z => z) fun _ _ z => z
    rintro rfl
    rcases hc with rfl | hc
    · rw [I.free] at q; cases q
    · rw [I.free] at hc; cases hc
end
abbrev Cx.mk' (X : Cx) (e : Addr) : Cx := { X with A := X.A.mark (some (.ref e)), calm := false, xe := fun _ _ => False }
theorem Inv.mkd {X : Cx} {pins : List (Addr × Obj)} {σ : St} {H : Hp} {s : Shared} (I : Inv X pins σ H s) (e : Addr) : Inv (Cx.mk' X e) pins σ H s :=
  ⟨⟨I.ok.mod, I.ok.kind, I.ok.glob, I.ok.blt, I.ok.above, I.ok.inj, I.ok.has, I.ok.cab, fun z => (Bool.noConfusion z), I.ok.frames, I.ok.stk, I.ok.exf, I.ok.bs, I.ok.bsz, I.ok.noex, I.ok.exfs, I.ok.funs, I.ok.frf⟩, I.os, I.bare, I.base, I.loc, I.cell, I.free, I.freeC, I.pin, I.hok, I.len⟩
theorem Inv.unmkd {X : Cx} {pins : List (Addr × Obj)} {σ : St} {H : Hp} {s : Shared} {e : Addr} (ok : X.Ok) (I : Inv (Cx.mk' X e) pins σ H s) : Inv X pins σ H s :=
  ⟨ok, I.os, I.bare, I.base, I.loc, I.cell, I.free, I.freeC, I.pin, I.hok, I.len⟩
structure Below (K : PySem.W.Frag) (D C : Addr) : Prop where
  h1 : PySem.W.instIn K (.ref D) (.type "tuple") = some false
  h2 : (PySem.W.clsIn K D).isSome = true
  h3 : PySem.W.mroIn K D (.type "BaseException") = some true
  h4 : PySem.W.mroIn K C (.ref D) = some true
def exT (D : Ends) (σ : St) (jn jz : Nat) (ok : Addr → Prop) : XK := fun c _ H2 => ∃ C, c = .ref C ∧ ok C ∧ ∀ a, H2 a = none → D.nx (((σ.set jn (some (.ref a))).set jz (some (.ref a))).set jn none) (upd H2 a (xo C a))
section
variable {X : Cx} {k : Nat} {f DD : Addr} {fd : FuncData} {ps : List Str} {sp : Sp} {ta : TA} {a0 : Expr} {as : List Expr} {y z n x fn : Str} {iy iz jn : Nat} {pf pc py pa px pz pn pb ph pos : Pos}
theorem ps_try (FO : FnOk X.prog X.w X.K X.mg X.base (CXr X.prog X.w) k f fd ps sp) (hr : Room k X.A) (hm : X.mg fn = some (.ref f)) (hk : PySem.W.keepIn X.K (.ref f) = true) (hb : Binds X.K fd ps []) (ha : ∀ E1, PA (X.wish E1) (a0 :: as) ta)
    (hN : X.N.Nodup) (hiy : X.N[iy]? = some y) (hiz : X.N[iz]? = some z) (hin : X.N[jn]? = some n) (hly : X.env.scope.names.lookup y = some .local) (hlz : X.env.scope.names.lookup z = some .local) (hln : X.env.scope.names.lookup n = some .local)
    (hst : X.stack = X.env :: X.outer) (hfr : X.env.frame = some X.env.locals) (hD : X.mg x = some (.ref DD)) (hg : Gl X fn := by rfl) (hgx : Gl X x := by rfl) (hdb : (fn == ("__debug__" : Str)) = false := by decide) (hdx : (x == ("__debug__" : Str)) = false := by decide) (hdn : (n == ("__debug__" : Str)) = false := by decide) (hcn : (n == ("__classdict__" : Str)) = false := by decide)
    (he : starEach (a0 :: as) X.env = (false, eval a0 X.env) :: starEach as X.env := by rfl) (hpl : (backTo pc (starEach as X.env)).any (·.1) = false := by rfl)
    (hs : swapsWith (.Call (.Name fn pf) (a0 :: as) [] pc) (some (.Name y py)) pa.line X.env = pure false := by rfl) (hs2 : swapsWith (.Name n pn) (some (.Name z pz)) pb.line X.env = pure false := by rfl) :
    PS X (.Try [.Assign [.Name y py] (.Call (.Name fn pf) (a0 :: as) [] pc) pa] [.ExceptHandler (some (.Name x px)) (some n) [.Assign [.Name z pz] (.Name n pn) pb] ph] [] [] pos)
      (fun D σ H => ta σ H fun vs H1 => sp vs H1 (fun v H2 => D.nx (σ.set iy (some v)) H2) (exT D σ jn iz (Below X.K DD))) := by
  intro pins s σ H D I h
  have ok := I.ok
  let E1 : Value → Shared → Prop := fun e s' => ∃ H1 s1, Inv X pins σ H1 s1 ∧ CXr X.prog X.w X.stack H1 s1 (exT D σ jn iz (Below X.K DD)) e s'
  have hcall : wpAny (model X.prog X.w) X.A (eval (.Call (.Name fn pf) (a0 :: as) [] pc) X.env) (EP X pins σ fun v H2 => D.nx (σ.set iy (some v)) H2) E1 s := by
    refine wpAny_Call_Name_kw (ld_glob I hg hm ?_ hdb)
    refine PySem.W.callWith_K (h₀ := X.base) I.ok.mod.kin hk (thn (ha E1 pc pins s σ H _ (I.wish E1) h) fun us s1 ⟨vs, H1, I1, r, q⟩ => ⟨I1.unwish.kIn, ?_⟩) he hpl
    have J := I1.unwish
    have hl : (us ++ []).length = ps.length := by rw [List.append_nil, ← r.length]; exact FO.len _ _ _ _ q
    have hb' := hb s1 us J.kIn hl
    rw [List.append_nil] at hb'
    refine wpAny_call (codeAny_mono (FO.run X.A X.stack s1 H1 ⟨us, []⟩ us vs _ _ hr J.env0 hb' r q) fun rr s' hq => ?_)
    cases rr with
    | error e => exact ⟨H1, s1, J, hq⟩
    | ok fl =>
      cases fl with
      | ret u => exact J.after hq
      | next => exact False.elim hq
      | brk => exact False.elim hq
      | cont => exact False.elim hq
  have hbody : wpAny (model X.prog X.w) X.A (execs [.Assign [.Name y py] (.Call (.Name fn pf) (a0 :: as) [] pc) pa] X.env) (fun fl s' => fl = .next ∧ ∃ σ' H', Inv X pins σ' H' s' ∧ D.nx σ' H') E1 s := by
    refine wpAny_execs_cons (wpAny_Assign_Name (thn hcall fun v s1 ⟨u, H1, I1, r1, q1⟩ => ?_) hs)
    refine store_ok I1 hN hiy (.inl hly) r1 (fun s2 I2 => ?_) (.inr hly)
    exact wpAny_execs_nil ⟨rfl, _, H1, I2, q1⟩
  refine wpAny_Try_except (wpAny_mono hbody (fun fl s' hq => ?_) fun ev s' hq => ?_)
  · obtain ⟨rfl, σ', H', I', q⟩ := hq
    exact wpAny_execs_nil ⟨σ', H', I', q⟩
  · obtain ⟨H1, s1, I1, e, C, t, H', B, rfl, G, C', hC, hbl, hD2⟩ := hq
    cases hC
    have fly := G.fly
    rw [hst] at fly
    have frm : X.A.frames = some (X.env :: X.outer) := by rw [← hst]; exact ok.frames
    refine wpAny_looks_onW (outer := X.outer) frm hfr fly fun h4 held up4 => ?_
    refine wpAny_landsW held fun h5 fly5 up5 => ?_
    have c5 := caught I1 G (h3 := h5) fly5.1 (up4.trans up5) fly5.there s'.toks
    have I5 : Inv X pins σ (upd H' e (xo C e)) { s' with heap := h5 } := c5.2
    refine wpAny_handleBy_cons (codeAny_handlers_test ?_) (by intro q; cases q)
    refine ld_glob (X := Cx.mk' X e) (Inv.mkd I5 e) hgx hD ?_ hdx
    refine matches_exc (K := X.K) I5.kIn (xo_at (I5.hok e _ upd_same)) hbl.h1 hbl.h2 hbl.h3 hbl.h4 ?_
    refine codeAny_handlers_suite_as ?_
    refine lands_againW fly5 fun h6 fly6 up6 => ?_
    have c6 := caught I1 G (h3 := h6) fly6.1 ((up4.trans up5).trans up6) fly6.there s'.toks
    have I6 : Inv X pins σ (upd H' e (xo C e)) { s' with heap := h6 } := c6.2
    refine store_ok (X := Cx.mk' X e) (Inv.mkd I6 e) hN hin (.inl hln) (v := .ref e) rfl (fun s7 I7 => ?_) (.inr hln)
    have hjl : jn < σ.length := by rw [I.len]; exact (List.getElem?_eq_some_iff.mp hin).1
    have hset := pss_one (ps_set (X := Cx.mk' X e) (pos := pb) (pos' := pz) hN hiz (.inl hlz) (pe_var (pos := pn) hin (.inl hln) hdn hcn) hs2 (.inr hlz)) pins s7 (σ.set jn (some (.ref e))) (upd H' e (xo C e))
      { nx := fun σ' H2 => σ' = (σ.set jn (some (.ref e))).set iz (some (.ref e)) ∧ H2 = upd H' e (xo C e), rt := fun _ _ => False } I7 ⟨.ref e, by rw [List.getElem?_set_self hjl], rfl, rfl⟩
    refine wpAny_mono hset (fun fl s8 q8 => ?_) fun _ _ z => z.elim
    cases fl with
    | next =>
      obtain ⟨σ8, H8, I8, rfl, rfl⟩ := q8
      refine del_ok (Inv.unmkd ok I8) hN hin hln fun s9 I9 => ?_
      exact ⟨_, _, I9, hD2 e c6.1⟩
    | ret u => obtain ⟨_, _, _, _, _, z⟩ := q8; exact z.elim
    | brk => obtain ⟨_, _, _, z⟩ := q8; exact z.elim
    | cont => obtain ⟨_, _, _, z⟩ := q8; exact z.elim
theorem call_isX {cv : V} {cu : Value} (rc : RelV cv cu) (hcu : ∀ u, RelV cv u → u = cu) : CallR X (.builtin "isinstance") (fun xs H Q => ∃ (a C : Addr) (b : Bool), xs = [.ref a, cv] ∧ H a = some (xo C a) ∧ XCls X.K C ∧ PySem.W.kitOne X.K (.ref C) cu = some b ∧ Q (.bl b) H) := by
  intro pins s σ H xs us Q I r h
  obtain ⟨a, C, b, rfl, ha, Z, kit, q⟩ := h
  cases r with
  | cons r1 r2 =>
    cases r2 with
    | cons r2 r3 =>
      cases r3
      cases r1
      cases hcu _ r2
      exact PySem.W.kia_one (kitx_exc Z) I.kIn (xo_at (I.hok a _ ha)) kit (fun z => nomatch z) fun tk => ⟨.bl b, H, I.tok _, rfl, q⟩
end
end L2.D
set_option Elab.async false
set_option linter.all false
set_option maxRecDepth 100000
set_option maxHeartbeats 1000000
namespace L2.D
open PySem PySem.Spec PyProof.Rows PySem.SeqAt
open Classical
def RM (K : PySem.W.Frag) (κ : Kl) (A : Addr → Prop) (G H' : Hp) (v : V) (p : PV) : Prop := if isLp p = true then OR K κ A G H' v p else Rep K κ (hide A H') v p
theorem RM.of {K : PySem.W.Frag} {κ : Kl} {A : Addr → Prop} {G H' : Hp} {v : V} {p : PV} (n : isLp p = false) (h : Rep K κ (hide A H') v p) : RM K κ A G H' v p := by
  unfold RM
  rw [if_neg (by rw [n]; exact Bool.noConfusion)]
  exact h
theorem OR.rep' {K : PySem.W.Frag} {κ : Kl} {A : Addr → Prop} {G H' : Hp} {v : V} {p : PV} (al : ∀ b, A b → G b ≠ none) (z : OR K κ A G H' v p) : Rep K κ (hide A H') v p := by
  obtain ⟨a, ws, l, rfl, rfl, z1, z2, z3⟩ := z
  refine .lst (SL.of ?_) (z3.mono (hide_sub (fun _ _ z => z) fun b z _ => .inl z))
  rw [hide_of fun w => al a w z1]
  exact z2
theorem RM.rep {K : PySem.W.Frag} {κ : Kl} {A : Addr → Prop} {G H' : Hp} {v : V} {p : PV} (al : ∀ b, A b → G b ≠ none) (h : RM K κ A G H' v p) : Rep K κ (hide A H') v p := by
  unfold RM at h
  split at h
  · exact OR.rep' al h
  · exact h
theorem RM.big {K : PySem.W.Frag} {κ : Kl} {A : Addr → Prop} {G G' H' : Hp} {v : V} {p : PV} (s : Same G G') (h : RM K κ A G' H' v p) : RM K κ A G H' v p := by
  unfold RM at h ⊢
  split
  · rename_i q
    rw [if_pos q] at h
    exact ORg h s fun b z => z
  · rename_i q
    rw [if_neg q] at h
    exact h
def ContX (K : PySem.W.Frag) (κ : Kl) (Ex : Nat → Hp → Prop) (G : Hp) (A : Addr → Prop) (bo : Nat → Option (Addr × List V)) (D : Ends) : Fl → Prop
  | .nx ρ' => ∀ own' σ' H', R K κ G A bo own' ρ' σ' H' → D.nx σ' H'
  | .bk ρ' => ∀ own' σ' H', R K κ G A bo own' ρ' σ' H' → D.bk σ' H'
  | .ct ρ' => ∀ own' σ' H', R K κ G A bo own' ρ' σ' H' → D.ct σ' H'
  | .rt p => match exNo p with
    | some k => ∀ H', Same G H' → Ex k H'
    | none => ∀ v H', Same G H' → RM K κ A G H' v p → D.rt v H'
def SvX (K : PySem.W.Frag) (κ : Kl) (Ex : Nat → Hp → Prop) (ts : TS) (g : DenS) : Prop :=
  ∀ {G A bo own ρ σ H fl D}, R K κ G A bo own ρ σ H → g ρ = some fl → ContX K κ Ex G A bo D fl → ts D σ H
def DX (X : Cx) (κ : Kl) (Ex : Nat → Hp → Prop) (st : Stmt) (g : DenS) : Prop := ∃ ts, PS X st ts ∧ SvX X.K κ Ex ts g
def DXs (X : Cx) (κ : Kl) (Ex : Nat → Hp → Prop) (st : List Stmt) (g : DenS) : Prop := ∃ ts, PSs X st ts ∧ SvX X.K κ Ex ts g
def DR (X : Cx) (κ : Kl) (e : Expr) (c : Sto → Bool) : Prop := ∃ te, PE X e te ∧ ∀ {G A bo own ρ σ H Q}, R X.K κ G A bo own ρ σ H → c ρ = true → (∀ v H', Same H H' → Q v H') → te σ H Q
section
variable {X : Cx} {κ : Kl} {Ex : Nat → Hp → Prop} {st : Stmt} {rest : List Stmt} {g g' : DenS} {e a b c tg iter : Expr} {f fa : Den} {ft : DenT} {pos : Pos} {fi : DenL} {gt : Tgt} {body : List Stmt}
theorem dxs_nil : DXs X κ Ex [] sNext := ⟨_, pss_nil, fun {G A bo own ρ σ H fl D} r e k => by cases e; exact k own σ H r⟩
theorem svx_seq {K : PySem.W.Frag} {t u : TS} (h1 : SvX K κ Ex t g) (h2 : SvX K κ Ex u g') : SvX K κ Ex (tSeq t u) (sSeq g g') := fun {G A bo own ρ σ H fl D} r e k => by
  obtain ⟨f1, e1, e2⟩ := Option.bind_eq_some_iff.mp e
  refine h1 r e1 ?_
  cases f1 with
  | nx ρ' => exact fun own' σ' H' r' => h2 r' e2 k
  | rt p => cases e2; exact k
  | bk ρ' => cases e2; exact k
  | ct ρ' => cases e2; exact k
theorem dxs_cons (h1 : DX X κ Ex st g) (h2 : DXs X κ Ex rest g') : DXs X κ Ex (st :: rest) (sSeq g g') :=
  let ⟨_, a1, a2⟩ := h1; let ⟨_, b1, b2⟩ := h2; ⟨_, pss_cons a1 b1, svx_seq a2 b2⟩
theorem dxs_one (h1 : DX X κ Ex st g) : DXs X κ Ex [st] g := let ⟨_, a1, a2⟩ := h1; ⟨_, pss_one a1, a2⟩
theorem dx_of (h : DS X κ false st g) (hn : ∀ ρ p, g ρ ≠ some (.rt p)) : DX X κ Ex st g := by
  obtain ⟨ts, h1, h2⟩ := h
  refine ⟨ts, h1, fun {G A bo own ρ σ H fl D} r e k => h2 r e ?_⟩
  cases fl with
  | nx ρ' => exact k
  | bk ρ' => exact k
  | ct ρ' => exact k
  | rt p =>
    exact absurd e (hn ρ p)
theorem nr_set {i : Nat} {a : Den} : ∀ ρ p, sSet i a ρ ≠ some (.rt p) := fun ρ p h => by
  obtain ⟨_, _, z⟩ := Option.map_eq_some_iff.mp h
  cases z
theorem dx_ret (h : DE X κ e f) : DX X κ Ex (.Return (some e) pos) (sRetX f) := by
  obtain ⟨te, h1, h2⟩ := h
  refine ⟨_, ps_ret h1, fun {G A bo own ρ σ H fl D} r e k => ?_⟩
  obtain ⟨p, e1, e2⟩ := Option.bind_eq_some_iff.mp e
  split at e2
  · cases e2
  · rename_i hn
    cases e2
    rw [Bool.or_eq_true, not_or] at hn
    have hp : exNo p = none := by
      cases q : exNo p with
      | none => rfl
      | some n => rw [q] at hn; exact absurd rfl hn.1
    have z : (match exNo p with | some k => ∀ H', Same G H' → Ex k H' | none => ∀ v H', Same G H' → RM X.K κ A G H' v p → D.rt v H') := k
    rw [hp] at z
    refine h2 r e1 fun v H' s q => z v H' (r.same.trans s) (.of (by simpa using hn.2) ?_)
    exact q.mono (hide_sub (fun _ _ q => q) fun b q _ => .inl q)
theorem dx_retO (h : DO X κ e f) : DX X κ Ex (.Return (some e) pos) (sRetXO f) := by
  obtain ⟨te, h1, h2⟩ := h
  refine ⟨_, ps_ret h1, fun {G A bo own ρ σ H fl D} r e k => ?_⟩
  obtain ⟨p, e1, e2⟩ := Option.bind_eq_some_iff.mp e
  obtain ⟨hl, e3⟩ := ite_some e2
  cases e3
  have hp : exNo p = none := by
    cases p <;> first | rfl | cases hl
  have z : (match exNo p with | some k => ∀ H', Same G H' → Ex k H' | none => ∀ v H', Same G H' → RM X.K κ A G H' v p → D.rt v H') := k
  rw [hp] at z
  refine h2 r e1 fun v H' s q => z v H' (r.same.trans s) ?_
  unfold RM
  rw [if_pos hl]
  exact ORg q r.same fun b q => .inl q
theorem dx_if {sa sb : List Stmt} (hc : DT X κ c ft) (ha : DXs X κ Ex sa g) (hb : DXs X κ Ex sb g') : DX X κ Ex (.If c sa sb pos) (sIf ft g g') := by
  obtain ⟨tc, h5, h6⟩ := hc
  obtain ⟨ta, h1, h2⟩ := ha
  obtain ⟨tb, h3, h4⟩ := hb
  refine ⟨_, ps_if h5 h1 h3, fun {G A bo own ρ σ H fl D} r e k => ?_⟩
  obtain ⟨c, e1, e2⟩ := Option.bind_eq_some_iff.mp e
  refine h6 r e1 fun H1 s1 => ?_
  cases c with
  | true => exact h2 (r.mono s1) e2 k
  | false => exact h4 (r.mono s1) e2 k
theorem loopx {K : PySem.W.Frag} {J : It} {ps : List PV} {G : Hp} {A : Addr → Prop} {bo : Nat → Option (Addr × List V)} {tg : TG} {tb : TS} {D : Ends} {own : Nat → Addr} {ρ : Sto} {σ : St} {H : Hp} {fl : Fl} {gb : DenS}
    (hI : ItOk K κ G A J ps) (hg : ∀ {own ρ σ H p v ρ' Q}, R K κ G A bo own ρ σ H → Rep K κ (hid A own ρ H) v p → gt p ρ = some ρ' → (∀ own' σ', R K κ G A bo own' ρ' σ' H → Same (hid A own ρ H) (hid A own' ρ' H) → Q σ' H) → tg v σ H Q)
    (hb : SvX K κ Ex tb gb) (r : R K κ G A bo own ρ σ H) (e : forL gt gb ps ρ = some fl) (k : ContX K κ Ex G A bo D fl) :
    ∃ W : Nat → Nat → St → Hp → Prop, (∃ m, W 0 m σ H) ∧ ∀ i m σ H, W i m σ H →
      (J.stop i H ∧ D.nx σ H) ∨ (J.go i H ∧ ∃ N : St → Hp → Prop, (∀ σ' H', N σ' H' → ∃ m', m' < m ∧ W (i + 1) m' σ' H') ∧ ∀ x H', J.yld i H x H' → tg x σ H' fun σ2 H2 => tb { D with nx := N, ct := N, bk := D.nx } σ2 H2) := by
  refine ⟨fun i m σ H => m = ps.length - i ∧ i ≤ ps.length ∧ ∃ own ρ, R K κ G A bo own ρ σ H ∧ forL gt gb (ps.drop i) ρ = some fl, ⟨ps.length, by simp, Nat.zero_le _, own, ρ, r, by simpa using e⟩, ?_⟩
  rintro i m σ H ⟨rfl, hi, own, ρ, r, e⟩
  obtain ⟨h1, h2⟩ := hI i H r.same
  by_cases hlt : i < ps.length
  · rw [List.drop_eq_getElem_cons hlt] at e
    obtain ⟨ρ1, f, e1, e3, e4⟩ := forL_cons e
    obtain ⟨h3, h4⟩ := h1 ps[i] (List.getElem?_eq_getElem hlt)
    refine .inr ⟨h3, fun σ' H' => i + 1 ≤ ps.length ∧ ∃ own ρ, R K κ G A bo own ρ σ' H' ∧ forL gt gb (ps.drop (i + 1)) ρ = some fl, fun σ' H' ⟨q0, q⟩ => ⟨ps.length - (i + 1), by omega, rfl, q0, q⟩, fun x H' y => ?_⟩
    obtain ⟨s, q⟩ := h4 x H' y
    have r1 := r.mono s
    refine hg r1 (q (hset A own ρ) (fun b hb => r.alH hb) r.visSame) e1 fun own' σ' r2 _ => ?_
    refine hb r2 e3 ?_
    cases f with
    | nx ρ' => exact fun own2 σ2 H2 r3 => ⟨hlt, own2, ρ', r3, e4⟩
    | ct ρ' => exact fun own2 σ2 H2 r3 => ⟨hlt, own2, ρ', r3, e4⟩
    | bk ρ' => cases e4; exact k
    | rt p => cases e4; exact k
  · have hn : ps.drop i = [] := List.drop_eq_nil_of_le (by omega)
    rw [hn] at e
    cases e
    exact .inl ⟨h2 (by omega), k own σ H r⟩
theorem ContX.small {K : PySem.W.Frag} {G G' : Hp} {A : Addr → Prop} {bo : Nat → Option (Addr × List V)} {D : Ends} {fl : Fl} (k : ContX K κ Ex G A bo D fl) (s : Same G G') (al : ∀ b, A b → G b ≠ none) (bg : ∀ i a vs, bo i = some (a, vs) → G a = some (.lst vs)) : ContX K κ Ex G' A bo D fl := by
  cases fl with
  | nx ρ' => exact fun own' σ' H' r => k own' σ' H' (r.small s al bg)
  | bk ρ' => exact fun own' σ' H' r => k own' σ' H' (r.small s al bg)
  | ct ρ' => exact fun own' σ' H' r => k own' σ' H' (r.small s al bg)
  | rt p =>
    have z : (match exNo p with | some k => ∀ H', Same G H' → Ex k H' | none => ∀ v H', Same G H' → RM K κ A G H' v p → D.rt v H') := k
    show (match exNo p with | some k => ∀ H', Same G' H' → Ex k H' | none => ∀ v H', Same G' H' → RM K κ A G' H' v p → D.rt v H')
    cases q : exNo p with
    | some n => rw [q] at z; exact fun H' s' => z H' (s.trans s')
    | none => rw [q] at z; exact fun v H' s' w => z v H' (s.trans s') (w.big s)
theorem dx_for (hp : PassesOwn (model X.prog X.w) X.A X.env X.xe) (hi : DI X κ tg iter fi) (hg : DG X κ tg gt) (hb : DXs X κ Ex body g) (hc : X.calm = true := by rfl) (hs : ∀ x, foldedSetIterable iter X.env x = pure x := by intro _; rfl) : DX X κ Ex (.For tg iter body [] pos) (sFor fi gt g) := by
  obtain ⟨wi, h1, h2⟩ := hi
  obtain ⟨tt, h3, h4⟩ := hg
  obtain ⟨tb, h5, h6⟩ := hb
  refine ⟨_, ps_for hp hc h1 h3 h5 hs, fun {G A bo own ρ σ H fl D} r e k => ?_⟩
  obtain ⟨ps, e1, e2⟩ := Option.bind_eq_some_iff.mp e
  refine h2 r e1 fun J H' s hI => ?_
  have r1 := r.mono s
  exact loopx hI h4 h6 r1.big e2 (k.small r1.gv r1.al r1.bg)
theorem dx_raise {x : Str} {C : Addr} {cc : Sto → Bool} {np cpos : Pos} (k : Nat) (hC : ExCls X.K C) (hm : X.mg x = some (.ref C)) (hx : ∀ pins σ H s v h' e, Inv X pins σ H s → Heap.MadeExcOf s.heap h' e (.ref C) [v] → Ex k H → X.xe (.ref e) { s with heap := h' }) (ha : DR X κ a cc)
    (hg : Gl X x := by rfl) (hc : X.calm = true := by rfl) (hd : (x == ("__debug__" : Str)) = false := by decide) (hs : starEach [a] X.env = (false, eval a X.env) :: starEach [] X.env := by rfl) (hpl : (backTo cpos (starEach [a] X.env)).any (·.1) = false := by rfl) :
    DX X κ Ex (.Raise (some (.Call (.Name x np) [a] [] cpos)) none pos) (sRaise cc k) := by
  obtain ⟨te, h1, h2⟩ := ha
  refine ⟨_, ps_raise (P := Ex k) hC hm h1 hx hg hc hd hs hpl, fun {G A bo own ρ σ H fl D} r e q => ?_⟩
  unfold sRaise at e
  obtain ⟨hc, rfl⟩ := ite_some e
  have z : (match exNo (xMk k) with | some k => ∀ H', Same G H' → Ex k H' | none => ∀ v H', Same G H' → RM X.K κ A G H' v (xMk k) → D.rt v H') := q
  rw [exNo_mk] at z
  exact h2 r hc fun v H' s => ⟨v, rfl, z H' (r.same.trans s)⟩
theorem dr_fr {p1 p2 : Pos} {k : Nat} {c : Str} (ha : DB X κ a fa) (hc : c.length ≤ 1000 := by decide +kernel) (hs : evalEach [.FormattedValue a 114 none p1, .Constant (.str c) k p2] X.env = [eval (.FormattedValue a 114 none p1) X.env, eval (.Constant (.str c) k p2) X.env] := by rfl) :
    DR X κ (.JoinedStr [.FormattedValue a 114 none p1, .Constant (.str c) k p2] pos) (okR fa) := by
  obtain ⟨ta, h1, h2⟩ := ha
  refine ⟨_, pe_fr h1 hs, fun {G A bo own ρ σ H Q} r e q => ?_⟩
  unfold okR at e
  split at e
  · rename_i x hx
    rw [Bool.and_eq_true] at e
    obtain ⟨e1, e2⟩ := e
    have e2 := of_decide_eq_true e2
    refine h2 r hx fun v H' s z => ⟨x, z.str, ?_, fun out => q _ H' s⟩
    have hl := PySem.StrLaws.reprText_len x fun d hd => by
      rw [← Array.all_toList, List.all_eq_true] at e1
      have := of_decide_eq_true (e1 d hd)
      exact Nat.lt_of_lt_of_le this (by decide)
    omega
  · cases e
theorem pe_fi2 {p1 p2 : Pos} {k : Nat} {c : Str} {ta : TE} (ha : PE X a ta) (hc : c.length ≤ 1000) (hs : evalEach [.FormattedValue a (-1) none p1, .Constant (.str c) k p2] X.env = [eval (.FormattedValue a (-1) none p1) X.env, eval (.Constant (.str c) k p2) X.env] := by rfl) :
    PE X (.JoinedStr [.FormattedValue a (-1) none p1, .Constant (.str c) k p2] pos) (fun σ H Q => ta σ H fun x H1 => ∃ i, x = .int i ∧ i.natAbs < 10 ^ 100 ∧ ∀ out, Q (.str out) H1) := by
  intro pins s σ H Q I h
  have zl : (100000 : Nat) ≤ sizeLine := by decide
  have e0 : (Str.empty : Str).length = 0 := rfl
  refine wpAny_JoinedStr ?_
  rw [hs]
  refine wpAny_FormattedValue_plain (thn (ha pins s σ H _ I h) fun v s2 ⟨x, H1, I1, r1, i, ex, hz, q⟩ => ?_)
  subst ex
  obtain ⟨t, rfl⟩ := r1
  have hl : (Str.ofString (toString i)).length ≤ 101 := by
    rw [PySem.ofString_length]
    exact int_text_length_le10 (k := 100) (by decide) hz
  refine wpAny_formatField_int ?_ ⟨_, _, rfl, by rw [strLen_append, e0]; omega, ?_⟩
  · refine Nat.lt_of_lt_of_le (m := 400) ?_ (by decide)
    by_cases h0 : i.natAbs = 0
    · rw [h0]; decide
    · exact (Nat.log2_lt h0).mpr (Nat.lt_of_lt_of_le hz (by
        have z := Nat.pow_le_pow_left (show 10 ≤ 2 ^ 4 by decide) 100
        rw [← Nat.pow_mul] at z
        exact z))
  · show wpAny _ _ (eval (.Constant (.str c) k p2) X.env) _ _ _
    refine thn (pe_str (X := X) (x := c) pins _ σ H1 (fun x H2 => x = .str c ∧ H2 = H1) ((I1.tok _).tok _) ⟨rfl, rfl⟩) fun v s3 ⟨y, H2, I2, r2, ey, eH⟩ => ?_
    subst ey eH
    obtain ⟨t2, rfl⟩ := r2
    have hl2 : (Str.empty ++ Str.ofString (toString i) ++ c).length ≤ sizeLine := by
      rw [strLen_append, strLen_append, e0]
      omega
    exact ⟨c, t2, rfl, hl2, hl2, .str _, _, I2.tok _, ⟨_, rfl⟩, q _⟩
theorem dr_fi2 {p1 p2 : Pos} {k : Nat} {c : Str} (ha : DB X κ a fa) (hc : c.length ≤ 1000 := by decide +kernel) (hs : evalEach [.FormattedValue a (-1) none p1, .Constant (.str c) k p2] X.env = [eval (.FormattedValue a (-1) none p1) X.env, eval (.Constant (.str c) k p2) X.env] := by rfl) :
    DR X κ (.JoinedStr [.FormattedValue a (-1) none p1, .Constant (.str c) k p2] pos) (okI fa) := by
  obtain ⟨ta, h1, h2⟩ := ha
  refine ⟨_, pe_fi2 h1 hc hs, fun {G A bo own ρ σ H Q} r e q => ?_⟩
  unfold okI at e
  split at e
  · rename_i i hi
    exact h2 r hi fun v H' s z => ⟨i, z.int, of_decide_eq_true e, fun out => q _ H' s⟩
  · cases e
end
def spX (K : PySem.W.Frag) (κ : Kl) (cls : Nat → Addr) (F : List PV → Option PV) : Sp := fun vs H Q E => ∃ (A : Addr → Prop) (ps : List PV) (p : PV), (∀ b, A b → H b ≠ none) ∧ Reps K κ (hide A H) vs ps ∧ F ps = some p ∧
  match exNo p with
  | some k => ∀ H', Same H H' → E (.ref (cls k)) none H'
  | none => ∀ v H', Same H H' → RM K κ A H H' v p → Q v H'
section
variable {P : Program} {w : World} {K : PySem.W.Frag} {mg : Str → Option Value} {base : Heap} {κ : Kl}
theorem fun_denX {x qual : Str} {st : Stmt} {f : Addr} {fd : FuncData} {N ps : List Str} {k : Nat} {g : DenS} (cls : Nat → Addr) (F : Fun K x qual st f fd) (S : FnScope N ps (defScope st))
    (hb : ∀ (cdv : Value) (A : Around) (outer : List Env) (s : Shared) (H : Hp) (E : XK), Room k (A.deeper (envOfC qual (defScope st) s.heap.objs.size f cdv)) →
      PassesOwn (model P w) (cxOf (CXr P w) P w K mg base N qual (defScope st) f cdv A outer s H E).A (cxOf (CXr P w) P w K mg base N qual (defScope st) f cdv A outer s H E).env (cxOf (CXr P w) P w K mg base N qual (defScope st) f cdv A outer s H E).xe →
      (∀ (C : Addr) pins σ H1 s1 v h' e, Inv (cxOf (CXr P w) P w K mg base N qual (defScope st) f cdv A outer s H E) pins σ H1 s1 → Heap.MadeExcOf s1.heap h' e (.ref C) [v] → E (.ref C) none H1 → (cxOf (CXr P w) P w K mg base N qual (defScope st) f cdv A outer s H E).xe (.ref e) { s1 with heap := h' }) →
      DXs (cxOf (CXr P w) P w K mg base N qual (defScope st) f cdv A outer s H E) κ (fun k H' => E (.ref (cls k)) none H') (defBody st) g) :
    FnOk P w K mg base (CXr P w) (k + 1) f fd ps (spX K κ cls (fn false N.length ps.length g)) := by
  obtain ⟨oc, od, kV, doc, pm, an, cdv, ct, osl, rfl, lk, hcd⟩ := F.ex
  refine fn_of lk hcd S (fun vs H Q E h => ?_) fun A outer s H vs Q E hr h => ?_
  · obtain ⟨A, qs, p, _, h1, h2, _⟩ := h
    unfold fn at h2
    split at h2
    · rw [h1.length]
      assumption
    · cases h2
  · obtain ⟨A', qs, p, al, h1, h2, q⟩ := h
    obtain ⟨ts, a1, a2⟩ := hb cdv A outer s H E hr PassesOwn.leaving fun C pins σ H1 s1 v h' e I hm hE => leave_ex I hm hE
    refine ⟨ts, a1, ?_⟩
    have h3 : (g (startP N.length qs)).bind (endP false) = some p := by
      unfold fn at h2
      split at h2
      · exact h2
      · cases h2
    obtain ⟨fl, e1, e2⟩ := Option.bind_eq_some_iff.mp h3
    refine a2 (R.entry al h1) e1 ?_
    cases fl with
    | rt p' => cases e2; exact q
    | nx ρ' =>
      cases e2
      exact fun own' σ' H' r' => q _ _ r'.same (.of rfl .non)
    | bk ρ' => cases e2
    | ct ρ' => cases e2
end
end L2.D
set_option Elab.async false
set_option linter.all false
set_option maxRecDepth 100000
set_option maxHeartbeats 1000000
namespace L2.D
open PySem PySem.Spec PyProof.Rows PySem.SeqAt
open Classical
def rIsX (K : PySem.W.Frag) (cv : V) (cu : Value) : List V → Hp → VK → Prop := fun xs H Q => ∃ (a C : Addr) (b : Bool), xs = [.ref a, cv] ∧ H a = some (xo C a) ∧ XCls K C ∧ PySem.W.kitOne K (.ref C) cu = some b ∧ Q (.bl b) H
abbrev tIsX (K : PySem.W.Frag) (cv : V) (cu : Value) : TT := tB (tCB (rIsX K cv cu) (tCons (tVar 0) (tCons (tC cv) tNil)))
section
variable {X : Cx} {p p1 p2 pos : Pos} {y cn : Str}
theorem pt_isX {D : Addr} (hm : X.mg "isinstance" = none) (hD : X.mg cn = some (.ref D)) (hN : X.N[0]? = some y := by rfl) (hv : Vis X.env.scope y := by first | exact Or.inl rfl | exact Or.inr (Or.inl rfl) | exact Or.inr (Or.inr rfl)) (hg : Gl X "isinstance" := by rfl) (hg2 : Gl X cn := by rfl) (hd : (y == ("__debug__" : Str)) = false := by decide) (hcd : (y == ("__classdict__" : Str)) = false := by decide) (hd2 : (cn == ("__debug__" : Str)) = false := by decide)
    (hs : starEach [.Name y p1, .Name cn p2] X.env = (false, eval (.Name y p1) X.env) :: starEach [.Name cn p2] X.env := by rfl) (hs2 : starEach [.Name cn p2] X.env = (false, eval (.Name cn p2) X.env) :: starEach [] X.env := by rfl) (hpl : (backTo pos (starEach [.Name cn p2] X.env)).any (·.1) = false := by rfl) (he : ∀ whole, isTrue (.Call (.Name "isinstance" p) [.Name y p1, .Name cn p2] [] pos) X.env whole = (do let v ← whole; standAt (Expr.Call (.Name "isinstance" p) [.Name y p1, .Name cn p2] [] pos).pos; holding [v] (truthy v)) := by intro _; rfl) :
    PT X (.Call (.Name "isinstance" p) [.Name y p1, .Name cn p2] [] pos) (tIsX X.K (.ref D) (.ref D)) :=
  pt_val (pe_callB (call_isX (cv := .ref D) (cu := .ref D) rfl fun u z => z) hg hm PyProof.Rows.boot_isinstance (pa_cons (pe_var hN hv hd hcd) (pa_cons (pe_glob hg2 hD (v := .ref D) rfl hd2) pa_nil hs2) hs) (he := hs) (hpl := hpl)) he
theorem pt_isXT {T : String} (hm : X.mg "isinstance" = none) (hD : X.mg cn = none) (hb : bootBuiltins cn = some (.type T)) (hN : X.N[0]? = some y := by rfl) (hv : Vis X.env.scope y := by first | exact Or.inl rfl | exact Or.inr (Or.inl rfl) | exact Or.inr (Or.inr rfl)) (hg : Gl X "isinstance" := by rfl) (hg2 : Gl X cn := by rfl) (hd : (y == ("__debug__" : Str)) = false := by decide) (hcd : (y == ("__classdict__" : Str)) = false := by decide) (hd2 : (cn == ("__debug__" : Str)) = false := by decide) (hn : cn ≠ "__name__" := by decide)
    (hs : starEach [.Name y p1, .Name cn p2] X.env = (false, eval (.Name y p1) X.env) :: starEach [.Name cn p2] X.env := by rfl) (hs2 : starEach [.Name cn p2] X.env = (false, eval (.Name cn p2) X.env) :: starEach [] X.env := by rfl) (hpl : (backTo pos (starEach [.Name cn p2] X.env)).any (·.1) = false := by rfl) (he : ∀ whole, isTrue (.Call (.Name "isinstance" p) [.Name y p1, .Name cn p2] [] pos) X.env whole = (do let v ← whole; standAt (Expr.Call (.Name "isinstance" p) [.Name y p1, .Name cn p2] [] pos).pos; holding [v] (truthy v)) := by intro _; rfl) :
    PT X (.Call (.Name "isinstance" p) [.Name y p1, .Name cn p2] [] pos) (tIsX X.K (.ty T) (.type T)) :=
  pt_val (pe_callB (call_isX (cv := .ty T) (cu := .type T) rfl fun u z => z) hg hm PyProof.Rows.boot_isinstance (pa_cons (pe_var hN hv hd hcd) (pa_cons (pe_bltn hg2 hD hb (v := .ty T) rfl hn hd2) pa_nil hs2) hs) (he := hs) (hpl := hpl)) he
theorem ps_app {x c : Str} {p' apos cpos : Pos} {j : Nat} (i : Nat) (hN : X.N[i]? = some x := by rfl) (hv : Vis X.env.scope x := by first | exact Or.inl rfl | exact Or.inr (Or.inl rfl) | exact Or.inr (Or.inr rfl)) (hd : (x == ("__debug__" : Str)) = false := by decide)
    (hcd : (x == ("__classdict__" : Str)) = false := by decide) (hbase : attributeBase (.Name x p') "append" X.env (eval (.Name x p') X.env) = eval (.Name x p') X.env := by rfl)
    (hfew : ((backTo cpos (starEach [.Constant (.str c) j p1] X.env)).all (fun x => !x.1) && (backToKw cpos (keywordEach [] X.env)).all (fun x => x.1.isSome)
      && decide ([Expr.Constant (.str c) j p1].length + ([] : List Keyword).length + (if ([] : List Keyword).isEmpty then 0 else 1) < 30)) = true := by rfl)
    (hs : swapsWith (.Call (.Attribute (.Name x p') "append" apos) [.Constant (.str c) j p1] [] cpos) none pos.line X.env = pure false := by rfl) (hline : (apos.endLine == cpos.line) = true := by rfl) (hst : starEach [.Constant (.str c) j p1] X.env = (false, eval (.Constant (.str c) j p1) X.env) :: starEach [] X.env := by rfl) :
    PS X (.Expr (.Call (.Attribute (.Name x p') "append" apos) [.Constant (.str c) j p1] [] cpos) pos) (tDrop (tBM X.K "list" rAppend (tVar i) (tCons (tC (.str c)) tNil))) :=
  ps_expr (pe_bm PySem.F.plainAttrs_list PySem.F.slot_list_append PySem.F.type_list_append mt_append (pe_var hN hv hd hcd) (pa_cons pe_str pa_nil hst) hbase hfew hline hst rfl) hs
end
def spK (cls : Nat → Addr) (ns : List Str) : Sp := fun vs H Q _ => ∃ (a : Addr) (k : Nat) (x : Str), vs = [.ref a] ∧ H a = some (xo (cls k) a) ∧ ns[k]? = some x ∧ ∀ p, H p = none → Q (.ref p) (upd H p (.lst [.str x]))
section
variable {K : PySem.W.Frag} {cv : V} {cu : Value} {t : TS} {D : Ends} {a q C : Addr} {H : Hp} {xs : List V} {c : Str}
theorem kd_no (ha : H a = some (xo C a)) (Z : XCls K C) (hk : PySem.W.kitOne K (.ref C) cu = some false) (h : D.nx [some (.ref a), some (.ref q)] H) : tIfS (tIsX K cv cu) t tNext D [some (.ref a), some (.ref q)] H :=
  ⟨.ref a, rfl, a, C, false, rfl, ha, Z, hk, false, rfl, iteF h⟩
theorem kd_yes (ha : H a = some (xo C a)) (Z : XCls K C) (hk : PySem.W.kitOne K (.ref C) cu = some true) (hq : H q = some (.lst xs)) (hl : xs.length < 100) (h : D.nx [some (.ref a), some (.ref q)] (upd H q (.lst (xs ++ [.str c])))) :
    tIfS (tIsX K cv cu) (tDrop (tBM K "list" rAppend (tVar 1) (tCons (tC (.str c)) tNil))) tNext D [some (.ref a), some (.ref q)] H :=
  have zl : (100 : Nat) ≤ sizeLine := by decide
  ⟨.ref a, rfl, a, C, true, rfl, ha, Z, hk, true, rfl, iteT ⟨.ref q, rfl, .inl ⟨rfl, xs, SqL.of hq⟩, q, xs, .str c, rfl, rfl, hq, Nat.lt_of_lt_of_le hl zl, h⟩⟩
theorem kd_other (ha : H a = some (xo C a)) (Z : XCls K C) (hk : PySem.W.kitOne K (.ref C) cu = some true) (h : D.nx [some (.ref a), some (.ref q)] H) : tIfS (L2.tNot (tIsX K cv cu)) t tNext D [some (.ref a), some (.ref q)] H :=
  ⟨.ref a, rfl, a, C, true, rfl, ha, Z, hk, true, rfl, iteF h⟩
end
theorem fn_len {fr : Bool} {n k : Nat} {body : DenS} {ps : List PV} {p : PV} (h : fn fr n k body ps = some p) : ps.length = k := by
  unfold fn at h
  split at h
  · assumption
  · cases h
end L2.D
set_option Elab.async false
set_option linter.all false
set_option maxRecDepth 100000
set_option maxHeartbeats 1000000
namespace L2.D
open PySem PySem.Spec PyProof.Rows PySem.SeqAt
open Classical
section
variable {X : Cx} {κ : Kl} {fr : Bool} {a b c e : Expr} {fa fb fc f : Den} {pos : Pos}
theorem evs_chainLL {K : PySem.W.Frag} {ta tb tc : TE} (h2 : EvB K κ ta fa) (h4 : EvB K κ tb fb) (h6 : EvB K κ tc fc) : EvS K κ (tChain (rI0 fun i j => .bl (decide (i ≤ j))) (rI0 fun i j => .bl (decide (i < j))) ta tb tc) (dChainLL fa fb fc) := fun {G A bo own ρ σ H p Q} r e q => by
  refine evb2 (g := fun x y => (toI x).bind fun i => (toI y).bind fun j => if i ≤ j then (fc ρ).bind fun z => (toI z).map fun k => PV.bl (decide (j < k)) else some (.bl false)) h2 h4 r e fun x y p1 p2 H1 s1 r1 b1 b2 e' => ?_
  obtain ⟨i, e3, e4⟩ := Option.bind_eq_some_iff.mp e'
  obtain ⟨j, e5, e6⟩ := Option.bind_eq_some_iff.mp e4
  cases p1 <;> first | (cases e3; done) | skip
  cases e3
  cases p2 <;> first | (cases e5; done) | skip
  cases e5
  refine ⟨i, j, b1.int, b2.int, _, rfl, ?_⟩
  by_cases hij : i ≤ j
  · rw [if_pos hij] at e6
    obtain ⟨p3, e7, e8⟩ := Option.bind_eq_some_iff.mp e6
    obtain ⟨k, e9, rfl⟩ := Option.map_eq_some_iff.mp e8
    cases p3 <;> first | (cases e9; done) | skip
    cases e9
    rw [if_pos (decide_eq_true hij)]
    refine h6 r1 e7 fun w H2 s2 b3 => ?_
    exact ⟨j, k, b2.int, b3.int, q _ H2 (s1.trans s2) (.bl _)⟩
  · rw [if_neg hij] at e6
    cases e6
    rw [if_neg (by simpa using hij)]
    exact q _ H1 s1 (.bl _)
theorem dt_chainLL (ha : DB X κ a fa) (hb : DB X κ b fb) (hc : DB X κ c fc) (hm : lastMarks [.LtE, .Lt] [b, c] = false := by with_unfolding_all rfl) : DT X κ (.Compare a [.LtE, .Lt] [b, c] pos) (tV (dChainLL fa fb fc)) := by
  obtain ⟨ta, h1, h2⟩ := ha
  obtain ⟨tb, h3, h4⟩ := hb
  obtain ⟨tc, h5, h6⟩ := hc
  exact ⟨_, pt_chain op_le op_lt h1 h3 h5 hm, tV_test (evs_chainLL h2 h4 h6)⟩
theorem mt_upper : MtR X "str.upper" (fun x xs H Q => ∃ i, x = .str i ∧ xs = [] ∧ (Txt.upper i).length ≤ 1000 ∧ Q (.str (Txt.upper i)) H) := by
  intro pins s σ H x xs v us Q I rx r h
  obtain ⟨i, rfl, rfl, hz, q⟩ := h
  obtain ⟨t, rfl⟩ := rx
  cases r
  have zl : (1000 : Nat) ≤ sizeLine := by decide
  exact SC.upper (decide_eq_false (by omega)) ⟨.str _, H, I.tok _, ⟨_, rfl⟩, q⟩
theorem de_upper {apos : Pos} (ha : DB X κ a fa) (hbase : attributeBase a "upper" X.env (eval a X.env) = eval a X.env := by rfl) (hline : (apos.endLine == pos.line) = true := by rfl) : DE X κ (.Call (.Attribute a "upper" apos) [] [] pos) (dUn gUp fa) := by
  obtain ⟨ta, h1, h2⟩ := ha
  refine ⟨_, pe_bm0 PySem.F.plainAttrs_str PySem.F.slot_str_upper PySem.F.type_str_upper mt_upper h1 hbase hline, fun {G A bo own ρ σ H p Q} r e q => ?_⟩
  obtain ⟨p1, e1, e2⟩ := Option.bind_eq_some_iff.mp e
  cases p1 <;> first | (cases e2; done) | skip
  obtain ⟨hz, rfl⟩ := ite_some e2
  refine h2 r e1 fun x H1 s1 b1 => ?_
  rw [b1.str]
  exact ⟨rfl, _, rfl, rfl, of_decide_eq_true hz, q _ H1 s1 (.str _)⟩
def EvM (K : PySem.W.Frag) (κ : Kl) (te : TE) (f : Den) : Prop :=
  ∀ {G A bo own ρ σ H p Q}, R K κ G A bo own ρ σ H → f ρ = some p → (∀ v H', Same H H' → RM K κ (hset A own ρ) H H' v p → Q v H') → te σ H Q
def DM (X : Cx) (κ : Kl) (e : Expr) (f : Den) : Prop := ∃ te, PE X e te ∧ EvM X.K κ te f
theorem DM.de (h : DM X κ e f) : DE X κ e f := let ⟨te, h1, h2⟩ := h; ⟨te, h1, fun r e q => h2 r e fun v H' s z => q v H' s (z.rep fun b hb => r.alH hb)⟩
theorem ds_setA (i : Nat) {x : Str} {p' : Pos} (hN : X.N.Nodup) (h : DM X κ e f) (hi : X.N[i]? = some x := by rfl) (hx : Loc X.env.scope x := by first | exact Or.inl rfl | exact Or.inr rfl) (hs : swapsWith e (some (.Name x p')) pos.line X.env = pure false := by rfl)
    (hf : X.fn x = true ∨ X.env.scope.names.lookup x = some .local := by first | exact .inl rfl | exact .inr rfl) : DS X κ fr (.Assign [.Name x p'] e pos) (sSetA i f) := by
  obtain ⟨te, h1, h2⟩ := h
  refine ⟨_, ps_set hN hi hx h1 hs hf, fun {G A bo own ρ σ H fl D} r e k => ?_⟩
  obtain ⟨p, e1, e2⟩ := Option.map_eq_some_iff.mp e
  refine h2 r e1 fun v H' s z => ?_
  cases hl : isLp p with
  | true =>
    cases p <;> first | (cases hl; done) | skip
    cases e2
    obtain ⟨own', r'⟩ := r.setN s (i := i) (show OR _ _ _ _ _ _ _ from z)
    exact k _ _ _ r'
  | false =>
    have zr : Rep X.K κ (hid A own ρ H') v p := z.rep fun b hb => r.alH hb
    have e3 : fl = .nx (ρ.set i (.sh p)) := by
      rw [← e2]
      cases p <;> first | rfl | cases hl
    subst e3
    exact k _ _ _ ((r.mono s).set zr)
end
def spM (K : PySem.W.Frag) (κ : Kl) (F : List PV → Option PV) : Sp := fun vs H Q _ => ∃ (A : Addr → Prop) (ps : List PV) (p : PV), (∀ b, A b → H b ≠ none) ∧ Reps K κ (hide A H) vs ps ∧ F ps = some p ∧ ∀ v H', Same H H' → RM K κ A H H' v p → Q v H'
theorem dm_call {X : Cx} {κ : Kl} {k : Nat} {f : Addr} {fd : FuncData} {ps : List Str} {F : List PV → Option PV} {x : Str} {p pos : Pos} {e : Expr} {es : List Expr} {fs : DenL} (FO : FnOk X.prog X.w X.K X.mg X.base CX0 k f fd ps (spM X.K κ F)) (hr : Room k X.A) (hm : X.mg x = some (.ref f)) (hk : PySem.W.keepIn X.K (.ref f) = true) (hb : Binds X.K fd ps []) (ha : DA X κ (e :: es) fs) (hg : Gl X x := by rfl) (hdb : (x == ("__debug__" : Str)) = false := by decide)
    (he : starEach (e :: es) X.env = (false, eval e X.env) :: starEach es X.env := by rfl) (hpl : (backTo pos (starEach es X.env)).any (·.1) = false := by rfl) : DM X κ (.Call (.Name x p) (e :: es) [] pos) (dCall F fs) := by
  obtain ⟨ta, h1, h2⟩ := ha
  refine ⟨_, pe_call FO hr hg hm hk hb .nil pass0 h1 hdb he hpl, fun {G A bo own ρ σ H p Q} r e q => ?_⟩
  obtain ⟨xs, e1, e2⟩ := Option.bind_eq_some_iff.mp e
  refine h2 r e1 fun vs H1 s1 z1 => ?_
  rw [List.append_nil]
  exact ⟨hset A own ρ, xs, p, fun b hb => (r.mono s1).alH hb, z1, e2, fun v H' s z => q v H' (s1.trans s) (z.big s1)⟩
section
variable {K : PySem.W.Frag} {κ : Kl} {cls : Nat → Addr} {F : List PV → Option PV} {DD : Addr} {ns : List Str} {N : List Str} {vs : List V} {H : Hp} {Q : VK} {E : XK}
theorem rd_told2 (hN : N.length = 5) (hB : ∀ k x, ns[k]? = some x → Below K DD (cls k)) (h1 : ∀ ps p, F ps = some p → ps.length = 2)
    (h : spD K κ false (fun ps => (F ps).bind (toldP ns)) vs H Q E) :
    tSeq (tAsg (tC .non) (gName 2)) (tSeq (tAsg (tC .non) (gName 3)) (tSeq (fun D σ H => tCons (tVar 0) (tCons (tVar 1) tNil) σ H fun vs H1 => spX K κ cls F vs H1 (fun v H2 => D.nx (σ.set 3 (some v)) H2) (exT D σ 4 2 (Below K DD)))
      (tSeq (tIfS (tB (tIsN (tVar 2))) (tRet (tVar 3)) tNext) (tRet (tCall (spK cls ns) [] E0 (tCons (tVar 2) tNil)))))) { nx := fun _ H' => Q .non H', rt := Q } (start N vs) H := by
  obtain ⟨A, ps, p, al, hv, hF, q⟩ := h
  obtain ⟨p0, e0, e1⟩ := Option.bind_eq_some_iff.mp hF
  have hl := h1 _ _ e0
  match ps, hv, hl with
  | [x, y], .cons (v := v) hx (.cons (v := u) hy .nil), _ =>
  have es : start N [v, u] = [some v, some u, none, none, none] := by
    show [some v, some u] ++ List.replicate (N.length - 2) none = _
    rw [hN]
    rfl
  rw [es]
  refine ⟨v, rfl, u, rfl, A, [x, y], p0, al, .cons hx (.cons hy .nil), e0, ?_⟩
  unfold toldP at e1
  cases hk : exNo p0 with
  | none =>
    rw [hk] at e1
    cases e1
    intro v' H' s r
    exact ⟨.non, rfl, true, rfl, iteT ⟨v', rfl, q v' H' s (r.rep al)⟩⟩
  | some k =>
    rw [hk] at e1
    obtain ⟨nm, e2, rfl⟩ := Option.map_eq_some_iff.mp e1
    intro H' s
    refine ⟨cls k, rfl, hB k nm e2, fun a ha => ?_⟩
    refine ⟨.ref a, rfl, false, rfl, iteF ⟨.ref a, rfl, ?_⟩⟩
    refine ⟨a, k, nm, rfl, upd_same, e2, fun r hr => ?_⟩
    have ra : r ≠ a := fun z => by rw [z, upd_same] at hr; cases hr
    rw [upd_ne ra] at hr
    have s2 : Same H (upd (upd H' a (xo (cls k) a)) r (.lst [.str nm])) := s.trans ((same_upd ha).trans (same_upd (by rw [upd_ne ra]; exact hr)))
    refine q _ _ s2 ?_
    show Rep K κ (hide A _) _ _
    refine .lst (SL.of ?_) (.cons (.str nm) .nil)
    rw [hide_of fun z => al r z (s.free hr)]
    exact upd_same
theorem rd_told2T (hN : N.length = 5) (hB : ∀ k x, ns[k]? = some x → Below K DD (cls k)) (h1 : ∀ ps p, F ps = some p → ps.length = 2)
    (h : spM K κ (fun ps => (F ps).bind (toldT ns)) vs H Q E) :
    tSeq (tAsg (tC .non) (gName 2)) (tSeq (tAsg (tC .non) (gName 3)) (tSeq (fun D σ H => tCons (tVar 0) (tCons (tVar 1) tNil) σ H fun vs H1 => spX K κ cls F vs H1 (fun v H2 => D.nx (σ.set 3 (some v)) H2) (exT D σ 4 2 (Below K DD)))
      (tSeq (tIfS (tB (tIsN (tVar 2))) (tRet (tVar 3)) tNext) (tRet (tCB (fun xs H Q => ∃ p ys, xs = [.ref p] ∧ ((SqL K H p ys ∧ ∀ l, H l = none → Q (.ref l) (upd H l (.tup ys))) ∨ (SqT K H p ys ∧ Q (.ref p) H))) (tCons (tCall (spK cls ns) [] E0 (tCons (tVar 2) tNil)) tNil)))))) { nx := fun _ H' => Q .non H', rt := Q } (start N vs) H := by
  obtain ⟨A, ps, p, al, hv, hF, q⟩ := h
  obtain ⟨p0, e0, e1⟩ := Option.bind_eq_some_iff.mp hF
  have hl := h1 _ _ e0
  match ps, hv, hl with
  | [x, y], .cons (v := v) hx (.cons (v := u) hy .nil), _ =>
  have es : start N [v, u] = [some v, some u, none, none, none] := by
    show [some v, some u] ++ List.replicate (N.length - 2) none = _
    rw [hN]
    rfl
  rw [es]
  refine ⟨v, rfl, u, rfl, A, [x, y], p0, al, .cons hx (.cons hy .nil), e0, ?_⟩
  unfold toldT at e1
  cases hk : exNo p0 with
  | none =>
    rw [hk] at e1
    cases e1
    intro v' H' s r
    exact ⟨.non, rfl, true, rfl, iteT ⟨v', rfl, q v' H' s r⟩⟩
  | some k =>
    rw [hk] at e1
    obtain ⟨nm, e2, rfl⟩ := Option.map_eq_some_iff.mp e1
    intro H' s
    refine ⟨cls k, rfl, hB k nm e2, fun a ha => ?_⟩
    refine ⟨.ref a, rfl, false, rfl, iteF ⟨.ref a, rfl, ?_⟩⟩
    refine ⟨a, k, nm, rfl, upd_same, e2, fun r hr => ?_⟩
    have ra : r ≠ a := fun z => by rw [z, upd_same] at hr; cases hr
    have s2 : Same H (upd (upd H' a (xo (cls k) a)) r (.lst [.str nm])) := s.trans ((same_upd ha).trans (same_upd hr))
    refine ⟨r, [.str nm], rfl, .inl ⟨SqL.of upd_same, fun t ht => ?_⟩⟩
    refine q _ _ (s2.trans (same_upd ht)) (.of rfl ?_)
    refine .tup (SqT.of ?_) (.cons (.str nm) .nil)
    rw [hide_of fun z => al t z (s2.free ht)]
    exact upd_same
end
end L2.D
set_option Elab.async false
set_option linter.all false
set_option maxRecDepth 100000
set_option maxHeartbeats 2000000
namespace L2.D
open PySem
theorem bitOr_nat (a b : Nat) : Builtin.bitOr (a : Int) (b : Int) = ((a ||| b : Nat) : Int) := by
  unfold Builtin.bitOr Builtin.bitAnd
  rw [decide_eq_false (by unfold Builtin.bitNot; omega), decide_eq_false (by unfold Builtin.bitNot; omega)]
  simp only [Builtin.bitNot]
  have e1 : (-(-(a : Int) - 1) - 1).toNat = a := by omega
  have e2 : (-(-(b : Int) - 1) - 1).toNat = b := by omega
  rw [e1, e2]
  omega
theorem shl_one (k : Nat) : (1 : Int) * 2 ^ ((k : Int).toNat) = ((2 ^ k : Nat) : Int) := by
  rw [Int.toNat_natCast]
  simp
def chk1 (p : Nat → Bool) : Bool := (List.range 64).all p
theorem chk1_eq {p : Nat → Bool} (h : chk1 p = true) {a : Nat} (ha : a < 64) : p a = true := List.all_eq_true.mp h a (List.mem_range.mpr ha)
end L2.D
namespace L2.D
theorem rng1 {n : Nat} (h : n ≤ 100000) : rngOk (n : Int) = true := by
  unfold rngOk
  simp
  omega
theorem pow1 {k n : Nat} (h : k < n) (hn : n ≤ 1000 := by decide) : powOk 1 (k : Int) = true := by
  unfold powOk
  simp
  omega
end L2.D
set_option Elab.async false
set_option linter.all false
set_option maxRecDepth 100000
set_option maxHeartbeats 2000000
namespace L2.D
open PySem
def isL (o : Option PV) (l : List Nat) : Bool := match o with
  | some (.lst ps) => match intsP ps with
    | some xs => xs == l.map (fun (n : Nat) => (n : Int))
    | none => false
  | _ => false
theorem intsP_eq : ∀ {ps : List PV} {xs : List Int}, intsP ps = some xs → ps = xs.map PV.int
  | [], xs, h => by cases h; rfl
  | p :: ps, xs, h => by
    cases p <;> first | (cases h; done) | skip
    obtain ⟨cs, h1, rfl⟩ := Option.map_eq_some_iff.mp h
    rw [List.map_cons, ← intsP_eq h1]
abbrev pints (l : List Nat) : PV := .lst (l.map fun (n : Nat) => PV.int (n : Int))
theorem isL_eq {o : Option PV} {l : List Nat} (h : isL o l = true) : o = some (pints l) := by
  unfold isL at h
  split at h
  · split at h
    · rename_i ps xs e
      have := eq_of_beq h
      subst this
      rw [intsP_eq e, List.map_map]
      rfl
    · cases h
  · cases h
theorem forL_eq (g : Tgt) (body : DenS) (x : PV) (xs : List PV) (ρ : Sto) : forL g body (x :: xs) ρ = (g x ρ).bind fun ρ1 => (body ρ1).bind fun f => match f with
    | .nx ρ' => forL g body xs ρ'
    | .ct ρ' => forL g body xs ρ'
    | .bk ρ' => some (.nx ρ')
    | .rt p => some (.rt p) := rfl
end L2.D
set_option linter.all false
namespace L2.D.Sh
open PySem
def g_has_hand : DenS := (sRet (dBin gEq (dBin gAnd (dBin gShr (dV 0) (dV 1)) (dC (.int 1))) (dC (.int 1))))
def g_hands_of (F_has_hand : List PV → Option PV) : DenS := (sRet (dComp (nRng1 (dUn gBits (dV 0))) (tV (dCall F_has_hand (dCons (dVS 1) (dCons (dVS 0) dNil)))) (dVS 0)))
def g_law_hands : DenS := (sRet (dComp (nRng1 (dC (.int 6))) (tV (dBin gEq (dBin gAnd (dBin gShr (dV 1) (dV 0)) (dC (.int 1))) (dC (.int 1)))) (dVS 0)))
def g_law_cell_at : DenS := (sSeq (sIf (tV (dBin gLt (dV 1) (dUn gLen (dV 0)))) (sRet (dBin gIx (dV 0) (dV 1))) sNext) (sRet (dC (.int 0))))
def b_law_same_1 (F_law_same : List PV → Option PV) : DenS := (sIf (tNot (tV (dCall F_law_same (dCons (dBin gIx (dV 0) (dV 2)) (dCons (dBin gIx (dV 1) (dV 2)) dNil))))) (sRet (dC (.bl false))) sNext)
def g_law_same (F_law_same : List PV → Option PV) : DenS := (sSeq (sIf (tOr (tV (dUn (gIs 4) (dV 1))) (tV (dUn (gIs 3) (dV 1)))) (sSeq (sIf (tOr (tV (dBin gNe' (dUn (gIs 4) (dV 0)) (dUn (gIs 4) (dV 1)))) (tV (dBin gNe' (dUn (gIs 3) (dV 0)) (dUn (gIs 3) (dV 1))))) (sRet (dC (.bl false))) sNext) (sSeq (sIf (tV (dBin gNe' (dUn gLen (dV 0)) (dUn gLen (dV 1)))) (sRet (dC (.bl false))) sNext) (sSeq (sFor (nRng1 (dUn gLen (dV 1))) (gtName 2) (b_law_same_1 F_law_same)) (sRet (dC (.bl true)))))) sNext) (sSeq (sIf (tV (dUn (gIs 1) (dV 1))) (sRet (dAndV (dUn (gIs 1) (dV 0)) (dBin gEq (dV 0) (dV 1)))) sNext) (sSeq (sIf (tV (dUn (gIs 0) (dV 1))) (sRet (dAndV (dUn (gIs 0) (dV 0)) (dAndV (dNotV (dUn (gIs 1) (dV 0))) (dBin gEq (dV 0) (dV 1))))) sNext) (sSeq (sIf (tV (dUn (gIs 2) (dV 1))) (sRet (dAndV (dUn (gIs 2) (dV 0)) (dBin gEq (dV 0) (dV 1)))) sNext) (sRet (dAndV (dUn gIsN (dV 1)) (dUn gIsN (dV 0))))))))
end L2.D.Sh
set_option Elab.async false
set_option linter.all false
set_option maxRecDepth 100000
set_option maxHeartbeats 2000000
namespace L2.D
open PySem
abbrev Fhh := fn false 2 2 Sh.g_has_hand
abbrev Fho := fn true 1 1 (Sh.g_hands_of Fhh)
abbrev Flh := fn true 1 1 Sh.g_law_hands
abbrev Fca := fn false 2 2 Sh.g_law_cell_at
theorem hands_chk : chk1 (fun g => isL (Fho [.int g]) (Mt.hands g) && isL (Flh [.int g]) (Mt.hands g)) = true := by decide +kernel
theorem hands_eq (g : Nat) (h : g < 64) : Fho [.int g] = some (pints (Mt.hands g)) := isL_eq (by have := chk1_eq hands_chk h; rw [Bool.and_eq_true] at this; exact this.1)
theorem sFor_eq {it : DenL} {g : Tgt} {body : DenS} {ρ : Sto} {xs : List PV} (h : it ρ = some xs) : sFor it g body ρ = forL g body xs ρ := by
  unfold sFor
  rw [h]
  rfl
theorem sSeq_nx {a b : DenS} {ρ ρ' : Sto} (h : a ρ = some (.nx ρ')) : sSeq a b ρ = b ρ' := by
  unfold sSeq
  rw [h]
  rfl
theorem sSeq_rt {a b : DenS} {ρ : Sto} {p : PV} (h : a ρ = some (.rt p)) : sSeq a b ρ = some (.rt p) := by
  unfold sSeq
  rw [h]
  rfl
theorem sIf_t {t : DenT} {a b : DenS} {ρ : Sto} (h : t ρ = some true) : sIf t a b ρ = a ρ := by
  unfold sIf
  rw [h]
  rfl
theorem sIf_f {t : DenT} {a b : DenS} {ρ : Sto} (h : t ρ = some false) : sIf t a b ρ = b ρ := by
  unfold sIf
  rw [h]
  rfl
theorem sSet_eq {i : Nat} {a : Den} {ρ : Sto} {p : PV} (h : a ρ = some p) : sSet i a ρ = some (.nx (ρ.set i (.sh p))) := by
  unfold sSet
  rw [h]
  rfl
theorem sSetO_eq {i : Nat} {a : Den} {ρ : Sto} {l : List PV} (h : a ρ = some (.lst l)) : sSetO i a ρ = some (.nx (ρ.set i (.ow l))) := by
  unfold sSetO
  rw [h]
  rfl
theorem sRet_eq {a : Den} {ρ : Sto} {p : PV} (h : a ρ = some p) : sRet a ρ = some (.rt p) := by
  unfold sRet
  rw [h]
  rfl
theorem dCall_eq {F : List PV → Option PV} {as : DenL} {ρ : Sto} {ps : List PV} (h : as ρ = some ps) : dCall F as ρ = F ps := by
  unfold dCall
  rw [h]
  rfl
theorem dCallF_eq {F : List PV → Option PV} {as : DenL} {ρ : Sto} {ps : List PV} {p : PV} (h : as ρ = some ps) (e : F ps = some p) (f : flat p = true) : dCallF F as ρ = some p := by
  unfold dCallF
  rw [h]
  show ((F ps).bind _) = _
  rw [e]
  show (if flat p then some p else none) = _
  rw [if_pos f]
theorem tV_eq {a : Den} {ρ : Sto} {b : Bool} (h : a ρ = some (.bl b)) : tV a ρ = some b := by
  unfold tV
  rw [h]
  rfl
theorem tNot_eq {t : DenT} {ρ : Sto} {b : Bool} (h : t ρ = some b) : tNot t ρ = some (!b) := by
  unfold tNot
  rw [h]
  rfl
theorem tOr_f {a b : DenT} {ρ : Sto} (h : a ρ = some false) : tOr a b ρ = b ρ := by
  unfold tOr
  rw [h]
  rfl
theorem tOr_t {a b : DenT} {ρ : Sto} (h : a ρ = some true) : tOr a b ρ = some true := by
  unfold tOr
  rw [h]
  rfl
theorem dBin_eq {g : PV → PV → Option PV} {a b : Den} {ρ : Sto} {x y : PV} (h1 : a ρ = some x) (h2 : b ρ = some y) : dBin g a b ρ = g x y := by
  unfold dBin
  rw [h1]
  show (b ρ).bind _ = _
  rw [h2]
  rfl
theorem dUn_eq {g : PV → Option PV} {a : Den} {ρ : Sto} {x : PV} (h1 : a ρ = some x) : dUn g a ρ = g x := by
  unfold dUn
  rw [h1]
  rfl
theorem nRng1_eq {a : Den} {ρ : Sto} {j : Int} (h1 : a ρ = some (.int j)) (h2 : rngOk j = true) : nRng1 a ρ = some (rangeP 0 j.toNat) := by
  unfold nRng1
  rw [h1]
  simp only [Option.bind_some, toI]
  rw [if_pos h2]
theorem gEq_int (i j : Int) : gEq (.int i) (.int j) = some (.bl (decide (i = j))) := rfl
theorem gNe_int (i j : Int) : gNe' (.int i) (.int j) = some (.bl (!decide (i = j))) := rfl
theorem fn_rt {fr : Bool} {n k : Nat} {body : DenS} {ps : List PV} {p : PV} (h : ps.length = k) (e : body (startP n ps) = some (.rt p)) : fn fr n k body ps = some p := by
  unfold fn
  rw [if_pos h, e]
  rfl
theorem cell_eq (ns : List Int) (k : Nat) : Fca [.lst (ns.map PV.int), .int k] = some (.int (ns.getD k 0)) := by
  have t : tV (dBin gLt (dV 1) (dUn gLen (dV 0))) [.sh (.lst (ns.map PV.int)), .sh (.int k)] = some (decide (k < ns.length)) := by
    refine tV_eq ((dBin_eq (x := .int k) (y := .int ((ns.map PV.int).length : Nat)) rfl rfl).trans ?_)
    show some (PV.bl (decide ((k : Int) < (((ns.map PV.int).length : Nat) : Int)))) = _
    rw [List.length_map]
    congr 2
    rw [decide_eq_decide]
    omega
  by_cases h : k < ns.length
  · rw [decide_eq_true h] at t
    have e : itemAt (ns.map PV.int) (k : Int) = some (.int (ns.getD k 0)) := by simp [itemAt, ixP, h]
    exact fn_rt rfl (sSeq_rt ((sIf_t t).trans (sRet_eq ((dBin_eq (x := .lst (ns.map PV.int)) (y := .int k) rfl rfl).trans e))))
  · rw [decide_eq_false h] at t
    have h2 : ns.getD k 0 = 0 := by
      rw [List.getD_eq_getElem?_getD, List.getElem?_eq_none (by omega)]
      rfl
    rw [h2]
    exact fn_rt rfl ((sSeq_nx ((sIf_f t).trans rfl)).trans (sRet_eq rfl))
abbrev pl (l : List Nat) : List PV := l.map fun (n : Nat) => PV.int (n : Int)
theorem mem_pl {l : List Nat} {x : PV} (h : x ∈ pl l) : ∃ n ∈ l, x = .int (n : Nat) := by
  obtain ⟨n, hn, rfl⟩ := List.mem_map.mp h
  exact ⟨n, hn, rfl⟩
theorem forL_stay {i : Nat} {body : DenS} : ∀ (xs : List PV) (ρ : Sto), (∀ x ∈ xs, body (ρ.set i (.sh x)) = some (.nx (ρ.set i (.sh x)))) → ∃ s, forL (gtName i) body xs ρ = some (.nx (ρ.set i s))
  | [], ρ, _ => by
    by_cases h : i < ρ.length
    · exact ⟨ρ[i], by rw [List.set_getElem_self]; rfl⟩
    · exact ⟨.un, by rw [List.set_eq_of_length_le (by omega)]; rfl⟩
  | x :: xs, ρ, h => by
    obtain ⟨s, e⟩ := forL_stay xs (ρ.set i (.sh x)) (fun y hy => by
      rw [List.set_set]
      exact h y (List.mem_cons_of_mem _ hy))
    refine ⟨s, ?_⟩
    rw [forL_eq]
    show ((body (ρ.set i (.sh x))).bind _) = _
    rw [h x (List.mem_cons_self ..)]
    show forL (gtName i) body xs (ρ.set i (.sh x)) = _
    rw [e, List.set_set]
theorem shl_nat (c : Nat) (h : c ≤ 6) : gShl (.int 1) (.int c) = some (.int ((2 ^ c : Nat) : Int)) := by
  have := pow1 (k := c) (n := 7) (by omega)
  unfold gShl
  dsimp only
  rw [if_pos this, shl_one]
end L2.D
set_option Elab.async false
set_option linter.all false
set_option maxRecDepth 100000
set_option maxHeartbeats 2000000
namespace L2.D
open PySem
abbrev scr (ns : List Int) : PV := .lst (ns.map PV.int)
end L2.D
set_option linter.all false
set_option maxHeartbeats 4000000
set_option maxRecDepth 100000
set_option Elab.async false
set_option linter.all false
set_option maxRecDepth 100000
set_option maxHeartbeats 2000000
namespace L2.D
open PySem
theorem gOr_nat (a b : Nat) : gOr (.int a) (.int b) = some (.int ((a ||| b : Nat) : Int)) := by
  show some (PV.int (Builtin.bitOr (a : Int) (b : Int))) = _
  rw [bitOr_nat]
theorem gEq_nat (a b : Nat) : gEq (.int a) (.int b) = some (.bl (decide (a = b))) := by
  rw [gEq_int]
  congr 2
  rw [decide_eq_decide]
  omega
theorem gNe_nat (a b : Nat) : gNe' (.int a) (.int b) = some (.bl (!decide (a = b))) := by
  rw [gNe_int]
  congr 3
  rw [decide_eq_decide]
  omega
theorem gMod_nat (x : Int) {n : Nat} (h : 0 < n) : gMod (.int x) (.int n) = some (.int (((x % (n : Int)).toNat : Nat) : Int)) := by
  show (if decide (0 < (n : Int)) then some (PV.int (x % (n : Int))) else none) = _
  rw [if_pos (decide_eq_true (by omega))]
  have := Int.emod_nonneg x (show (n : Int) ≠ 0 by omega)
  congr 2
  omega
theorem mod_lt (x : Int) {n : Nat} (h : 0 < n) : (x % (n : Int)).toNat < n := by
  have := Int.emod_lt_of_pos x (show (0 : Int) < n by omega)
  omega
theorem rangeP_nat (n : Nat) : rangeP 0 n = pl (List.range n) := by
  unfold rangeP
  refine List.map_congr_left fun k _ => ?_
  rw [Int.zero_add]
theorem nRng_nat {a : Den} {ρ : Sto} {n : Nat} (h : a ρ = some (.int n)) (hn : n ≤ 100000) : nRng1 a ρ = some (pl (List.range n)) := by
  rw [nRng1_eq h (rng1 hn), Int.toNat_natCast, rangeP_nat]
end L2.D
set_option Elab.async false
set_option linter.all false
set_option maxRecDepth 100000
set_option maxHeartbeats 2000000
set_option Elab.async false
set_option linter.all false
set_option maxRecDepth 100000
set_option maxHeartbeats 2000000
namespace L2.D
open PySem
theorem dCons_eq {a : Den} {as : DenL} {ρ : Sto} {x : PV} {xs : List PV} (h1 : a ρ = some x) (h2 : as ρ = some xs) : dCons a as ρ = some (x :: xs) := by
  unfold dCons
  rw [h1, h2]
  rfl
theorem dLst_eq {as : DenL} {ρ : Sto} {xs : List PV} (h : as ρ = some xs) (hl : xs.length ≤ 5000) : dLst as ρ = some (.lst xs) := by
  have zl : (5000 : Nat) ≤ sizeLine := by decide
  unfold dLst
  rw [h]
  show (if xs.length ≤ sizeLine then some (PV.lst xs) else none) = _
  rw [if_pos (by omega)]
end L2.D
set_option Elab.async false
set_option linter.all false
set_option maxRecDepth 100000
set_option maxHeartbeats 2000000
namespace L2.D
open PySem
theorem same_int {F : List PV → Option PV} (a : Nat) : fn false 3 2 (Sh.g_law_same F) [.int a, .int a] = some (.bl true) := by
  refine fn_rt rfl ?_
  refine (sSeq_nx (sIf_f ((tOr_f (tV_eq rfl)).trans (tV_eq rfl)))).trans ?_
  refine (sSeq_nx (sIf_f (tV_eq rfl))).trans ?_
  refine sSeq_rt ((sIf_t (tV_eq rfl)).trans (sRet_eq ?_))
  show dBin gEq (dV 0) (dV 1) [.sh (.int a), .sh (.int a), .un] = _
  refine (dBin_eq (x := .int a) (y := .int a) rfl rfl).trans ?_
  rw [gEq_nat, decide_eq_true rfl]
end L2.D
set_option Elab.async false
set_option linter.all false
set_option maxRecDepth 100000
set_option maxHeartbeats 2000000
set_option Elab.async false
set_option linter.all false
set_option maxRecDepth 100000
set_option maxHeartbeats 2000000
namespace L2.D
open PySem
theorem dAndV_t {a b : Den} {ρ : Sto} (h : a ρ = some (.bl true)) : dAndV a b ρ = b ρ := by
  unfold dAndV
  rw [h]
  rfl
end L2.D
set_option Elab.async false
set_option linter.all false
set_option maxRecDepth 100000
set_option maxHeartbeats 2000000
namespace L2.D
open PySem
theorem app_len (a b : Str) : (a ++ b).length = a.length + b.length := by
  show (a.cps ++ b.cps).size = _
  rw [Array.size_append]
  rfl
theorem fm_le {α β : Type} (f : α → Option β) : ∀ l : List α, (l.filterMap f).length ≤ l.length
  | [] => Nat.le_refl _
  | x :: l => by
    have := fm_le f l
    rw [List.filterMap_cons]
    split
    · rw [List.length_cons]; omega
    · rw [List.length_cons, List.length_cons]; omega
theorem cut_le (x : Str) (lo hi : Option Int) {st : Int} (h0 : st ≠ 0) : (cutS x lo hi st).length ≤ x.length := by
  unfold cutS
  split
  · exact Nat.le_refl _
  · show ((Builtin.Str.strSliceIndices lo hi st x.length).filterMap (x.cps[·]?)).toArray.size ≤ _
    rw [List.size_toArray]
    have h1 := fm_le (x.cps[·]?) (Builtin.Str.strSliceIndices lo hi st x.length)
    have h2 := sliceIndicesBy_le lo hi st h0 x.length
    omega
theorem fm_all {α β : Type} (f : α → Option β) : ∀ l : List α, (∀ x ∈ l, (f x).isSome = true) → (l.filterMap f).length = l.length
  | [], _ => rfl
  | x :: l, h => by
    have ih := fm_all f l fun y hy => h y (List.mem_cons_of_mem _ hy)
    obtain ⟨z, hz⟩ := Option.isSome_iff_exists.mp (h x (List.mem_cons_self ..))
    rw [List.filterMap_cons, hz, List.length_cons, List.length_cons, ih]
theorem cut_to (x : Str) (n : Nat) (h : n ≤ x.length) : (cutS x none (some (n : Int)) 1).length = n := by
  have e : Builtin.Str.strSliceIndices none (some (n : Int)) 1 x.length = (List.range n).map (0 + ·) := by
    have := PySem.sliceRange_one 0 n
    rw [Nat.sub_zero] at this
    rw [← this]
    unfold Builtin.Str.strSliceIndices
    simp only
    congr 1
    rw [if_pos (by decide), if_neg (by omega)]
    omega
  unfold cutS
  rw [e]
  split
  · rename_i hh
    rw [Bool.and_eq_true, beq_iff_eq, beq_iff_eq, List.length_map, List.length_range] at hh
    omega
  · show (((List.range n).map (0 + ·)).filterMap (x.cps[·]?)).toArray.size = n
    rw [List.size_toArray, fm_all, List.length_map, List.length_range]
    intro i hi
    obtain ⟨k, hk, rfl⟩ := List.mem_map.mp hi
    have := List.mem_range.mp hk
    have hl : 0 + k < x.cps.size := by
      have : x.cps.size = x.length := rfl
      omega
    have hl' : k < x.cps.size := by omega
    simp [hl']
def alph : Str := "abcdefghijklmnopqrstuvwxyz"
theorem alph_len : alph.length = 26 := by decide +kernel
theorem str_ix {x : Str} {i : Nat} (h : i < x.length) (hx : x.length ≤ 5000) : ∃ y : Str, y.length = 1 ∧ gIx (.str x) (.int i) = some (.str y) := by
  have zl : (5000 : Nat) ≤ sizeLine := by decide
  have hl : i < x.cps.toList.length := by
    rw [Array.length_toList]
    exact h
  have : itemAt x.cps.toList (i : Int) = some (x.cps.toList[i]'hl) := by
    unfold itemAt ixP
    rw [if_pos (by omega), if_pos (by omega)]
    show x.cps.toList[(i : Int).toNat]? = _
    rw [Int.toNat_natCast, List.getElem?_eq_getElem hl]
  refine ⟨⟨#[x.cps.toList[i]'hl]⟩, rfl, ?_⟩
  show (if x.length ≤ sizeLine then (itemAt x.cps.toList (i : Int)).map (fun c => PV.str ⟨#[c]⟩) else none) = _
  rw [if_pos (by omega), this]
  rfl
theorem gAdd_str (a b : Str) (h : a.length + b.length ≤ 100000) : gAdd (.str a) (.str b) = some (.str (a ++ b)) := by
  have zl : (100000 : Nat) ≤ sizeLine := by decide
  show (if a.length + b.length ≤ sizeLine then some (PV.str (a ++ b)) else none) = _
  rw [if_pos (by omega)]
theorem dSlA_str {A : Den} {lo hi : DenO} {ρ : Sto} {y : Str} {l h : Option Int} (hA : A ρ = some (.str y)) (hl : lo ρ = some l) (hh : hi ρ = some h) (hy : y.length ≤ 100000) : dSlA A lo hi ρ = some (.str (cutS y l h 1)) := by
  have zl : (100000 : Nat) ≤ sizeLine := by decide
  unfold dSlA
  rw [hA, hl, hh]
  show (if y.length ≤ sizeLine then some (PV.str (cutS y l h 1)) else none) = _
  rw [if_pos (by omega)]
theorem mul_small {a b : Int} (h1 : -100000000000 ≤ a) (h2 : a ≤ 100000000000) : gMul (.int a) (.int b) = some (.int (a * b)) := by
  have : mulOk a b = true := by
    unfold mulOk
    rw [Bool.or_eq_true, Bool.and_eq_true]
    exact .inl ⟨decide_eq_true (by omega), decide_eq_true (by omega)⟩
  show (if mulOk a b then some (PV.int (a * b)) else none) = _
  rw [if_pos this]
theorem gMod_pos (a : Int) {n : Int} (h : 0 < n) : gMod (.int a) (.int n) = some (.int (a % n)) := by
  show (if decide (0 < n) then some (PV.int (a % n)) else none) = _
  rw [if_pos (decide_eq_true h)]
theorem gDiv_pos (a : Int) {n : Int} (h : 0 < n) (h2 : n < 1073741824) : gDiv (.int a) (.int n) = some (.int (a / n)) := by
  show (if decide (0 < n) && decide (n < 1073741824) then some (PV.int (a / n)) else none) = _
  rw [decide_eq_true h, decide_eq_true h2]
  rfl
end L2.D
set_option Elab.async false
set_option linter.all false
set_option maxRecDepth 100000
set_option maxHeartbeats 2000000
namespace L2.D
open PySem
def As (x : Str) : Prop := ∀ c ∈ x.cps.toList, c < 128
theorem as_all {x : Str} (h : As x) : x.cps.all (· < 128) = true := by
  rw [← Array.all_toList, List.all_eq_true]
  exact fun c hc => decide_eq_true (h c hc)
theorem as_app {a b : Str} (ha : As a) (hb : As b) : As (a ++ b) := fun c hc => by
  have e : (a ++ b).cps.toList = a.cps.toList ++ b.cps.toList := Array.toList_append
  rw [e] at hc
  rcases List.mem_append.mp hc with h | h
  · exact ha c h
  · exact hb c h
def asB (x : Str) : Bool := x.cps.toList.all fun c => decide (c < 128)
theorem as_of {x : Str} (h : asB x = true) : As x := fun c hc => of_decide_eq_true (List.all_eq_true.mp h c hc)
def kept : List PV := [.str "all", .str "any", .str "of"]
end L2.D
set_option Elab.async false
set_option linter.all false
set_option maxRecDepth 100000
set_option maxHeartbeats 2000000
namespace L2.D
open PySem
def Lw (x : Str) : Prop := ∀ c ∈ x.cps.toList, 97 ≤ c ∧ c ≤ 122
theorem Lw.as {x : Str} (h : Lw x) : As x := fun c hc => by have := h c hc; omega
theorem lw_app {a b : Str} (ha : Lw a) (hb : Lw b) : Lw (a ++ b) := fun c hc => by
  have e : (a ++ b).cps.toList = a.cps.toList ++ b.cps.toList := Array.toList_append
  rw [e] at hc
  rcases List.mem_append.mp hc with h | h
  · exact ha c h
  · exact hb c h
theorem lw_cut {x : Str} (h : Lw x) (lo hi : Option Int) (st : Int) : Lw (cutS x lo hi st) := by
  unfold cutS
  split
  · exact h
  · intro c hc
    have hc : c ∈ (Builtin.Str.strSliceIndices lo hi st x.length).filterMap (x.cps[·]?) := hc
    obtain ⟨i, _, e⟩ := List.mem_filterMap.mp hc
    exact h c (by rw [Array.mem_toList_iff]; exact Array.mem_of_getElem? e)
def lwB (x : Str) : Bool := x.cps.toList.all fun c => decide (97 ≤ c) && decide (c ≤ 122)
theorem lw_of {x : Str} (h : lwB x = true) : Lw x := fun c hc => by
  have := List.all_eq_true.mp h c hc
  simpa using this
def lett (i : Nat) : Str := ⟨#[97 + i]⟩
theorem lett_lw {i : Nat} (h : i < 26) : Lw (lett i) := fun c hc => by
  have : c = 97 + i := by simpa [lett] using hc
  omega
theorem lett_chk : ((List.range 26).all fun i => itemAt alph.cps.toList (i : Int) == some (97 + i)) = true := by decide +kernel
theorem alph_lett {i : Nat} (h : i < 26) : gIx (.str alph) (.int i) = some (.str (lett i)) := by
  have zl : (5000 : Nat) ≤ sizeLine := by decide
  have hc := beq_iff_eq.mp (List.all_eq_true.mp lett_chk i (List.mem_range.mpr h))
  show (if alph.length ≤ sizeLine then (itemAt alph.cps.toList (i : Int)).map (fun c => PV.str ⟨#[c]⟩) else none) = _
  rw [if_pos (by rw [alph_len]; omega), hc]
  rfl
def hdl : List Nat → List Nat → Nat
  | x :: l, y :: m => (if x = y then 0 else 1) + hdl l m
  | _, _ => 0
theorem hdl_self : ∀ l : List Nat, hdl l l = 0
  | [] => rfl
  | x :: l => by
    show (if x = x then 0 else 1) + hdl l l = 0
    rw [if_pos rfl, hdl_self l]
theorem hdl_app (a b : List Nat) : ∀ l : List Nat, hdl (l ++ a) (l ++ b) = hdl a b
  | [] => rfl
  | x :: l => by
    show (if x = x then 0 else 1) + hdl (l ++ a) (l ++ b) = _
    rw [if_pos rfl, hdl_app a b l, Nat.zero_add]
theorem hdl_one (A C : Str) {i j : Nat} (h : i ≠ j) : hdl ((A ++ lett i) ++ C).cps.toList ((A ++ lett j) ++ C).cps.toList = 1 := by
  have e : ∀ k, ((A ++ lett k) ++ C).cps.toList = A.cps.toList ++ ((97 + k) :: C.cps.toList) := fun k => by
    show ((A.cps ++ #[97 + k]) ++ C.cps).toList = _
    simp
  rw [e, e, hdl_app]
  show (if 97 + i = 97 + j then 0 else 1) + hdl C.cps.toList C.cps.toList = 1
  rw [if_neg (by omega), hdl_self]
def fin (y : Str) : Str := if inP (.str y) kept = true then cutS y none none (-1) else y
def wds : List Str := ["all", "any", "of"]
theorem wd_chk : (wds.all fun x => lwB (cutS x none none (-1)) && decide ((cutS x none none (-1)).length = x.length) && !decide (hdl x.cps.toList (cutS x none none (-1)).cps.toList = 1) && !decide (hdl (cutS x none none (-1)).cps.toList x.cps.toList = 1) && wds.all fun y => !decide (hdl x.cps.toList y.cps.toList = 1)) = true := by decide +kernel
theorem inP_strs {x : Str} : ∀ {ts : List Str}, inP (.str x) (ts.map PV.str) = decide (x ∈ ts)
  | [] => by simp [inP]
  | t :: ts => by
    have ih := inP_strs (x := x) (ts := ts)
    unfold inP at ih ⊢
    rw [List.map_cons, List.any_cons, ih]
    show ((t == x) || decide (x ∈ ts)) = _
    by_cases h : t = x
    · subst h
      simp
    · rw [beq_eq_false_iff_ne.mpr h]
      simp [List.mem_cons, Ne.symm h]
theorem kept_mem {x : Str} : inP (.str x) kept = decide (x ∈ wds) := inP_strs (ts := wds)
theorem wd_of {x : Str} (h : inP (.str x) kept = true) : Lw (cutS x none none (-1)) ∧ (cutS x none none (-1)).length = x.length ∧ hdl x.cps.toList (cutS x none none (-1)).cps.toList ≠ 1 ∧ hdl (cutS x none none (-1)).cps.toList x.cps.toList ≠ 1 ∧ ∀ y, inP (.str y) kept = true → hdl x.cps.toList y.cps.toList ≠ 1 := by
  rw [kept_mem] at h
  have := List.all_eq_true.mp wd_chk x (of_decide_eq_true h)
  simp only [Bool.and_eq_true, Bool.not_eq_true', decide_eq_false_iff_not, decide_eq_true_eq] at this
  obtain ⟨⟨⟨⟨h1, h2⟩, h3⟩, h4⟩, h5⟩ := this
  refine ⟨lw_of h1, h2, h3, h4, fun y hy => ?_⟩
  rw [kept_mem] at hy
  have := List.all_eq_true.mp h5 y (of_decide_eq_true hy)
  simpa using this
theorem fin_len (x : Str) : (fin x).length = x.length := by
  unfold fin
  split
  · rename_i h
    exact (wd_of h).2.1
  · rfl
theorem fin_lw {x : Str} (h : Lw x) : Lw (fin x) := by
  unfold fin
  split
  · rename_i h
    exact (wd_of h).1
  · exact h
theorem fin_ne {x y : Str} (h : hdl x.cps.toList y.cps.toList = 1) : fin x ≠ fin y := by
  unfold fin
  split
  · rename_i hx
    obtain ⟨_, _, h3, _, h5⟩ := wd_of hx
    split
    · rename_i hy
      exact absurd h (h5 y hy)
    · intro e
      rw [e] at h3
      exact h3 h
  · split
    · rename_i hy
      obtain ⟨_, _, _, h4, _⟩ := wd_of hy
      intro e
      rw [← e] at h4
      exact h4 h
    · intro e
      rw [e, hdl_self] at h
      cases h
end L2.D
set_option Elab.async false
set_option linter.all false
set_option maxRecDepth 100000
set_option maxHeartbeats 2000000
namespace L2.D.My
open PySem
def g_law_cell_at : DenS := (sSeq (sIf (tV (dBin gLt (dV 1) (dUn gLen (dV 0)))) (sRet (dBin gIx (dV 0) (dV 1))) sNext) (sRet (dC (.int 0))))
def F_law_cell_at : List PV → Option PV := fn false 2 2 (g_law_cell_at)
def b_law_group_1 : DenS := (sSeq (sIf (tV (dBin gIn (dV 4) (dV 1))) (sSet 3 (dBin gAdd (dV 3) (dV 2))) sNext) (sSet 2 (dBin gMul (dV 2) (dC (.int 2)))))
def g_law_group : DenS := (sSeq (sSet 2 (dC (.int 1))) (sSeq (sSet 3 (dC (.int 0))) (sSeq (sFor (nTup (dVS 0)) (gtName 4) b_law_group_1) (sRet (dVS 3)))))
def F_law_group : List PV → Option PV := fn false 5 2 (g_law_group)
def g_law_number : DenS := (sSeq (sIf (tV (dBin gEq (dBin gMod (dV 0) (dC (.int 8))) (dC (.int 1)))) (sRet (dBin gSub (dUn gNeg (dC (.int 1))) (dBin gMul (dV 2) (dBin gMod (dBin gDiv (dV 0) (dC (.int 8))) (dC (.int 2)))))) sNext) (sSeq (sIf (tV (dBin gEq (dBin gMod (dV 0) (dC (.int 8))) (dC (.int 2)))) (sRet (dBin gAdd (dV 1) (dBin gMul (dV 2) (dBin gMod (dBin gDiv (dV 0) (dC (.int 8))) (dC (.int 2)))))) sNext) (sRet (dBin gMod (dBin gDiv (dV 0) (dC (.int 8))) (dV 1)))))
def F_law_number : List PV → Option PV := fn false 3 3 (g_law_number)
def g_has_hand : DenS := (sRet (dBin gEq (dBin gAnd (dBin gShr (dV 0) (dV 1)) (dC (.int 1))) (dC (.int 1))))
def F_has_hand : List PV → Option PV := fn false 2 2 (g_has_hand)
def g_hands_of (F_has_hand : List PV → Option PV) : DenS := (sRet (dComp (nRng1 (dUn gBits (dV 0))) (tV (dCall F_has_hand (dCons (dVS 1) (dCons (dVS 0) dNil)))) (dVS 0)))
def F_hands_of : List PV → Option PV := fn true 1 1 (g_hands_of F_has_hand)
def g_names_of (F_hands_of : List PV → Option PV) : DenS := (sSeq (sIf (tNot (tV (dChainLL (dC (.int 0)) (dV 1) (dBin gShl (dC (.int 1)) (dUn gLen (dV 0)))))) (sRaise (okI (dV 1)) 0) sNext) (sRetXO (dComp (nList (dCall F_hands_of (dCons (dVS 1) dNil))) tTrue (dBin gIx (dV 1) (dV 0)))))
def F_names_of : List PV → Option PV := fn false 2 2 (g_names_of F_hands_of)
def F_law_names_told : List PV → Option PV := fun ps => (F_names_of ps).bind (toldT ["NoGroup", "NoHand"])
def b_law_members_1 : DenS := (sSeq (sIf (tV (dBin gEq (dBin gMod (dV 1) (dC (.int 2))) (dC (.int 1)))) (sMut 2 mAppend (dCons (dVS 3) dNil)) sNext) (sSet 1 (dBin gDiv (dV 1) (dC (.int 2)))))
def g_law_members : DenS := (sSeq (sSetO 2 (dLst dNil)) (sSeq (sFor (nTup (dVS 0)) (gtName 3) b_law_members_1) (sRetV 2)))
def F_law_members : List PV → Option PV := fn true 4 2 (g_law_members)
def b_law_same_1 (F_law_same : List PV → Option PV) : DenS := (sIf (tNot (tV (dCall F_law_same (dCons (dBin gIx (dV 0) (dV 2)) (dCons (dBin gIx (dV 1) (dV 2)) dNil))))) (sRet (dC (.bl false))) sNext)
def g_law_same (F_law_same : List PV → Option PV) : DenS := (sSeq (sIf (tOr (tV (dUn (gIs 4) (dV 1))) (tV (dUn (gIs 3) (dV 1)))) (sSeq (sIf (tOr (tV (dBin gNe' (dUn (gIs 4) (dV 0)) (dUn (gIs 4) (dV 1)))) (tV (dBin gNe' (dUn (gIs 3) (dV 0)) (dUn (gIs 3) (dV 1))))) (sRet (dC (.bl false))) sNext) (sSeq (sIf (tV (dBin gNe' (dUn gLen (dV 0)) (dUn gLen (dV 1)))) (sRet (dC (.bl false))) sNext) (sSeq (sFor (nRng1 (dUn gLen (dV 1))) (gtName 2) (b_law_same_1 F_law_same)) (sRet (dC (.bl true)))))) sNext) (sSeq (sIf (tV (dUn (gIs 1) (dV 1))) (sRet (dAndV (dUn (gIs 1) (dV 0)) (dBin gEq (dV 0) (dV 1)))) sNext) (sSeq (sIf (tV (dUn (gIs 0) (dV 1))) (sRet (dAndV (dUn (gIs 0) (dV 0)) (dAndV (dNotV (dUn (gIs 1) (dV 0))) (dBin gEq (dV 0) (dV 1))))) sNext) (sSeq (sIf (tV (dUn (gIs 2) (dV 1))) (sRet (dAndV (dUn (gIs 2) (dV 0)) (dBin gEq (dV 0) (dV 1)))) sNext) (sRet (dAndV (dUn gIsN (dV 1)) (dUn gIsN (dV 0))))))))
def Fr_law_same : Nat → List PV → Option PV
  | 0 => fun _ => none
  | n + 1 => fn false 3 2 (g_law_same (Fr_law_same n))
def F_law_same : List PV → Option PV := Fr_law_same 4
def g_law_name : DenS := (sSeq (sSet 4 (dC (.str "abcdefghijklmnopqrstuvwxyz"))) (sSeq (sSet 5 (dBin gIx (dV 4) (dBin gMod (dBin gAdd (dBin gFind (dV 4) (dBin gIx (dV 0) (dV 1))) (dBin gMul (dC (.int 3)) (dV 3))) (dC (.int 26))))) (sRet (dBin gAdd (dBin gAdd (dSlA (dV 0) oNone (oSome (dV 1))) (dV 5)) (dSlA (dV 0) (oSome (dBin gAdd (dV 1) (dC (.int 1)))) (oSome (dV 2)))))))
def F_law_name : List PV → Option PV := fn false 6 4 (g_law_name)
def b_law_base_1 : DenS := (sSeq (sSet 2 (dBin gMod (dBin gAdd (dBin gAdd (dBin gAdd (dBin gMul (dV 2) (dV 2)) (dBin gMul (dC (.int 48271)) (dV 2))) (dV 4)) (dC (.int 1))) (dC (.int 2147483647)))) (sSet 3 (dBin gAdd (dV 3) (dBin gIx (dC (.str "abcdefghijklmnopqrstuvwxyz")) (dBin gMod (dV 2) (dC (.int 26)))))))
def g_law_base : DenS := (sSeq (sSet 2 (dBin gMod (dBin gAdd (dBin gMul (dBin gMod (dV 0) (dC (.int 2147483647))) (dC (.int 16807))) (dC (.int 11))) (dC (.int 2147483647)))) (sSeq (sSet 3 (dC (.str ""))) (sSeq (sFor (nRng1 (dV 1)) (gtName 4) b_law_base_1) (sRet (dVS 3)))))
def F_law_base : List PV → Option PV := fn false 5 2 (g_law_base)
def b_law_names_1 (F_law_cell_at F_law_name F_law_base : List PV → Option PV) : DenS := (sSeq (sSet 10 (dCall F_law_name (dCons (dVS 7) (dCons (dBin gMod (dBin gDiv (dV 3) (dC (.int 80))) (dV 4)) (dCons (dVS 4) (dCons (dVS 9) dNil)))))) (sSeq (sIf (tV (dBin gEq (dBin gMod (dBin gDiv (dV 3) (dC (.int 20))) (dC (.int 4))) (dC (.int 1)))) (sSet 10 (dSlA (dV 7) oNone (oSome (dBin gAdd (dV 9) (dC (.int 1)))))) sNext) (sSeq (sIf (tV (dBin gIn (dV 10) (dTup (dCons (dC (.str "all")) (dCons (dC (.str "any")) (dCons (dC (.str "of")) dNil)))))) (sSet 10 (dUn gRev (dV 10))) sNext) (sMut 8 mAppend (dCons (dVS 10) dNil)))))
def g_law_names (F_law_cell_at F_law_name F_law_base : List PV → Option PV) : DenS := (sSeq (sSet 3 (dCall F_law_cell_at (dCons (dVS 0) (dCons (dVS 1) dNil)))) (sSeq (sSet 4 (dBin gAdd (dC (.int 1)) (dBin gMod (dV 3) (dC (.int 20))))) (sSeq (sSet 5 (dCall F_law_cell_at (dCons (dVS 0) (dCons (dBin gAdd (dV 1) (dC (.int 1))) dNil)))) (sSeq (sSet 6 (dBin gIx (dLst (dCons (dC (.str "")) (dCons (dC (.str "")) (dCons (dC (.str "all")) (dCons (dC (.str "")) (dCons (dC (.str "any")) (dCons (dC (.str "")) (dCons (dC (.str "of")) (dCons (dC (.str "al")) dNil))))))))) (dBin gMod (dV 5) (dC (.int 8))))) (sSeq (sSet 7 (dSlA (dBin gAdd (dV 6) (dCall F_law_base (dCons (dBin gDiv (dV 5) (dC (.int 8))) (dCons (dC (.int 20)) dNil)))) oNone (oSome (dC (.int 20))))) (sSeq (sSetO 8 (dLst dNil)) (sSeq (sFor (nRng1 (dV 2)) (gtName 9) (b_law_names_1 F_law_cell_at F_law_name F_law_base)) (sRetV 8))))))))
def F_law_names : List PV → Option PV := fn true 11 3 (g_law_names F_law_cell_at F_law_name F_law_base)
def b_law_no_hand_1 : DenS := (sSet 3 (dBin gAdd (dV 3) (dC (.str "a"))))
def g_law_no_hand : DenS := (sSeq (sSet 3 (dBin gIx (dLst (dCons (dSlA (dV 1) oNone (oSome (dUn gNeg (dC (.int 1))))) (dCons (dBin gAdd (dV 1) (dC (.str "a"))) (dCons (dC (.str "")) (dCons (dBin gAdd (dSlA (dV 1) oNone (oSome (dUn gNeg (dC (.int 1))))) (dUn gUp (dBin gIx (dV 1) (dUn gNeg (dC (.int 1)))))) (dCons (dC (.str "all")) dNil)))))) (dBin gMod (dV 2) (dC (.int 5))))) (sSeq (whileN (tV (dBin gIn (dV 3) (dV 0))) b_law_no_hand_1 1000) (sRet (dVS 3))))
def F_law_no_hand : List PV → Option PV := fn false 4 3 (g_law_no_hand)
def b_group_of_1 : DenS := (sSeq (sIf (tV (dBin gNotIn (dV 3) (dV 0))) (sRaise (okR (dV 3)) 1) sNext) (sSet 2 (dBin gOr (dV 2) (dBin gShl (dC (.int 1)) (dBin gIndex (dV 0) (dV 3))))))
def g_group_of : DenS := (sSeq (sSet 2 (dC (.int 0))) (sSeq (sFor (nList (dVS 1)) (gtName 3) b_group_of_1) (sRetX (dVS 2))))
def F_group_of : List PV → Option PV := fn false 4 2 (g_group_of)
def F_law_group_told : List PV → Option PV := fun ps => (F_group_of ps).bind (toldP ["NoGroup", "NoHand"])
def g_law (F_law_cell_at F_law_group F_law_number F_law_names_told F_law_members F_law_same F_law_names F_law_no_hand F_law_group_told : List PV → Option PV) : DenS := (sSeq (sSet 1 (dCall F_law_cell_at (dCons (dVS 0) (dCons (dC (.int 0)) dNil)))) (sSeq (sSet 2 (dUn gTuple (dCall F_law_names (dCons (dVS 0) (dCons (dC (.int 2)) (dCons (dBin gAdd (dC (.int 1)) (dBin gMod (dV 1) (dC (.int 6)))) dNil)))))) (sSeq (sSetO 3 (dComp (nList (dSl (dV 0) (oSome (dC (.int 6))) (oSome (dC (.int 63))))) tTrue (dBin gIx (dV 3) (dBin gMod (dV 0) (dUn gLen (dV 3)))))) (sSeq (sSet 4 (dCallF F_law_group (dCons (dV 2) (dCons (dV 3) dNil)))) (sSeq (sIf (tV (dBin gEq (dBin gMod (dBin gDiv (dV 1) (dC (.int 6))) (dC (.int 4))) (dC (.int 1)))) (sSeq (sSet 5 (dBin gMod (dBin gDiv (dV 1) (dC (.int 24))) (dBin gAdd (dUn gLen (dV 3)) (dC (.int 1))))) (sSeq (sMut 3 mInsert (dCons (dVS 5) (dCons (dCall F_law_no_hand (dCons (dVS 2) (dCons (dBin gIx (dV 2) (dBin gMod (dBin gDiv (dV 1) (dC (.int 24))) (dUn gLen (dV 2)))) (dCons (dCall F_law_cell_at (dCons (dVS 0) (dCons (dC (.int 1)) dNil))) dNil)))) dNil))) (sSet 4 (dLst (dCons (dC (.str "NoHand")) dNil))))) sNext) (sSeq (sSet 6 (dUn gList (dV 3))) (sSeq (sIf (tOr (tNot (tV (dCall F_law_same (dCons (dCall F_law_group_told (dCons (dVS 2) (dCons (dVS 6) dNil))) (dCons (dVS 4) dNil))))) (tNot (tV (dCallF F_law_same (dCons (dV 6) (dCons (dV 3) dNil)))))) (sRet (dC (.bl false))) sNext) (sSeq (sIf (tNot (tV (dCall F_law_same (dCons (dCall F_law_group_told (dCons (dVS 2) (dCons (dUn gRevL (dV 3)) dNil))) (dCons (dVS 4) dNil))))) (sRet (dC (.bl false))) sNext) (sSeq (sSet 7 (dCall F_law_number (dCons (dCall F_law_cell_at (dCons (dVS 0) (dCons (dC (.int 4)) dNil))) (dCons (dBin gShl (dC (.int 1)) (dUn gLen (dV 2))) (dCons (dBin gMod (dCall F_law_cell_at (dCons (dVS 0) (dCons (dC (.int 5)) dNil))) (dBin gPow (dC (.int 10)) (dC (.int 59)))) dNil))))) (sSeq (sSetA 8 (dCall F_law_names_told (dCons (dVS 2) (dCons (dVS 7) dNil)))) (sSeq (sIf (tOr (tV (dBin gLt (dV 7) (dC (.int 0)))) (tV (dBin gGe (dV 7) (dBin gShl (dC (.int 1)) (dUn gLen (dV 2)))))) (sRet (dBin gEq (dV 8) (dTup (dCons (dC (.str "NoGroup")) dNil)))) sNext) (sSeq (sSet 9 (dCall F_law_members (dCons (dVS 2) (dCons (dVS 7) dNil)))) (sSeq (sIf (tNot (tV (dCallF F_law_same (dCons (dV 8) (dCons (dV 9) dNil))))) (sRet (dC (.bl false))) sNext) (sSeq (sMut 8 mClear dNil) (sRet (dCall F_law_same (dCons (dCall F_law_names_told (dCons (dVS 2) (dCons (dVS 7) dNil))) (dCons (dVS 9) dNil))))))))))))))))))
def F_law : List PV → Option PV := fn false 10 1 (g_law F_law_cell_at F_law_group F_law_number F_law_names_told F_law_members F_law_same F_law_names F_law_no_hand F_law_group_told)
end L2.D.My
set_option Elab.async false
set_option linter.all false
set_option maxRecDepth 100000
set_option maxHeartbeats 2000000
namespace L2.D.My
open PySem
def top (i : Nat) : Stmt := PySem.Challenge.pw_signright_k02_groups_and_names.main.body.getD i (.Pass ⟨0, 0, 0, 0⟩)
structure Bl (K : PySem.W.Frag) (mg : Str → Option Value) : Prop where
  ValueError : mg "ValueError" = none
  bool : mg "bool" = none
  int : mg "int" = none
  isinstance : mg "isinstance" = none
  len : mg "len" = none
  list : mg "list" = none
  range : mg "range" = none
  str : mg "str" = none
  tuple : mg "tuple" = none
structure Ed (K : PySem.W.Frag) (mg : Str → Option Value) (x : Str) (st : Stmt) (ps : List Str) (f : Addr) (fd : FuncData) : Prop where
  F : L2.Fun K x x st f fd
  b : L2.Binds K fd ps []
  m : mg x = some (.ref f)
structure Zx (K : PySem.W.Frag) (mg : Str → Option Value) (c_SignError c_NoRoll c_NoHand c_NoGroup c_NoRule c_NoDay c_NoDeputy c_NoEntry c_Unruled : Addr) : Prop where
  m_SignError : mg "SignError" = some (.ref c_SignError)
  m_NoRoll : mg "NoRoll" = some (.ref c_NoRoll)
  m_NoHand : mg "NoHand" = some (.ref c_NoHand)
  m_NoGroup : mg "NoGroup" = some (.ref c_NoGroup)
  m_NoRule : mg "NoRule" = some (.ref c_NoRule)
  m_NoDay : mg "NoDay" = some (.ref c_NoDay)
  m_NoDeputy : mg "NoDeputy" = some (.ref c_NoDeputy)
  m_NoEntry : mg "NoEntry" = some (.ref c_NoEntry)
  m_Unruled : mg "Unruled" = some (.ref c_Unruled)
  e_NoGroup : ExCls K c_NoGroup
  x_NoGroup : XCls K c_NoGroup
  b_NoGroup : Below K c_SignError c_NoGroup
  k_NoGroup_NoRoll : PySem.W.kitOne K (.ref c_NoGroup) (.ref c_NoRoll) = some false
  k_NoGroup_NoHand : PySem.W.kitOne K (.ref c_NoGroup) (.ref c_NoHand) = some false
  k_NoGroup_NoGroup : PySem.W.kitOne K (.ref c_NoGroup) (.ref c_NoGroup) = some true
  k_NoGroup_NoRule : PySem.W.kitOne K (.ref c_NoGroup) (.ref c_NoRule) = some false
  k_NoGroup_NoDay : PySem.W.kitOne K (.ref c_NoGroup) (.ref c_NoDay) = some false
  k_NoGroup_NoDeputy : PySem.W.kitOne K (.ref c_NoGroup) (.ref c_NoDeputy) = some false
  k_NoGroup_NoEntry : PySem.W.kitOne K (.ref c_NoGroup) (.ref c_NoEntry) = some false
  k_NoGroup_Unruled : PySem.W.kitOne K (.ref c_NoGroup) (.ref c_Unruled) = some false
  k_NoGroup_ValueError : PySem.W.kitOne K (.ref c_NoGroup) (.type "ValueError") = some true
  e_NoHand : ExCls K c_NoHand
  x_NoHand : XCls K c_NoHand
  b_NoHand : Below K c_SignError c_NoHand
  k_NoHand_NoRoll : PySem.W.kitOne K (.ref c_NoHand) (.ref c_NoRoll) = some false
  k_NoHand_NoHand : PySem.W.kitOne K (.ref c_NoHand) (.ref c_NoHand) = some true
  k_NoHand_NoGroup : PySem.W.kitOne K (.ref c_NoHand) (.ref c_NoGroup) = some false
  k_NoHand_NoRule : PySem.W.kitOne K (.ref c_NoHand) (.ref c_NoRule) = some false
  k_NoHand_NoDay : PySem.W.kitOne K (.ref c_NoHand) (.ref c_NoDay) = some false
  k_NoHand_NoDeputy : PySem.W.kitOne K (.ref c_NoHand) (.ref c_NoDeputy) = some false
  k_NoHand_NoEntry : PySem.W.kitOne K (.ref c_NoHand) (.ref c_NoEntry) = some false
  k_NoHand_Unruled : PySem.W.kitOne K (.ref c_NoHand) (.ref c_Unruled) = some false
  k_NoHand_ValueError : PySem.W.kitOne K (.ref c_NoHand) (.type "ValueError") = some true
section
variable {P : Program} {w : World} {K : PySem.W.Frag} {mg : Str → Option Value} {base : Heap} {κ : Kl} {f_law_cell_at f_law_group f_law_number f_has_hand f_hands_of f_names_of f_law_kinds f_law_names_told f_law_members f_law_same f_law_name f_law_base f_law_names f_law_no_hand f_group_of f_law_group_told f_law : Addr} {fd_law_cell_at fd_law_group fd_law_number fd_has_hand fd_hands_of fd_names_of fd_law_kinds fd_law_names_told fd_law_members fd_law_same fd_law_name fd_law_base fd_law_names fd_law_no_hand fd_group_of fd_law_group_told fd_law : FuncData} {c_SignError c_NoRoll c_NoHand c_NoGroup c_NoRule c_NoDay c_NoDeputy c_NoEntry c_Unruled : Addr}
theorem sc_law_cell_at : FnScope ["_law_script", "_law_k"] ["_law_script", "_law_k"] (defScope (top 16)) := ⟨rfl, rfl, rfl, by decide +kernel, rfl, by decide +kernel, by decide +kernel⟩
theorem ok_law_cell_at (B : Bl K mg) (d_law_cell_at : Ed K mg "_law_cell_at" (top 16) ["_law_script", "_law_k"] f_law_cell_at fd_law_cell_at) : FnOk P w K mg base CX0 1 f_law_cell_at fd_law_cell_at ["_law_script", "_law_k"] (spD K κ false F_law_cell_at) :=
  fun_den d_law_cell_at.F sc_law_cell_at fun cdv A outer s H E hr => have nd := sc_law_cell_at.nd; (dss_cons (ds_if (dt_cmp (dc_lt (db_var 1) (DE.b (de_len (db_var 0) B.len)))) (dss_one (ds_ret (de_ix (db_var 0) (db_var 1)))) dss_nil) (dss_one (ds_ret de_int)))
theorem sc_law_group : FnScope ["_law_roll", "_law_names_here", "_law_bits", "_law_found", "_law_name_here"] ["_law_roll", "_law_names_here"] (defScope (top 23)) := ⟨rfl, rfl, rfl, by decide +kernel, rfl, by decide +kernel, by decide +kernel⟩
theorem ok_law_group (B : Bl K mg) (d_law_group : Ed K mg "_law_group" (top 23) ["_law_roll", "_law_names_here"] f_law_group fd_law_group) : FnOk P w K mg base CX0 1 f_law_group fd_law_group ["_law_roll", "_law_names_here"] (spD K κ false F_law_group) :=
  fun_den d_law_group.F sc_law_group fun cdv A outer s H E hr => have nd := sc_law_group.nd; (dss_cons (ds_set 2 nd de_int) (dss_cons (ds_set 3 nd de_int) (dss_cons (ds_for (di_tup (de_var 0)) (dg_name 4 nd) (dss_cons (ds_if (dt_cmp (dc_in (db_var 4) (db_var 1))) (dss_one (ds_set 3 nd (de_add (db_var 3) (db_var 2)))) dss_nil) (dss_one (ds_set 2 nd (de_mul (db_var 2) (DE.b de_int)))))) (dss_one (ds_ret (de_var 3))))))
theorem sc_law_number : FnScope ["_law_cell", "_law_many", "_law_far"] ["_law_cell", "_law_many", "_law_far"] (defScope (top 27)) := ⟨rfl, rfl, rfl, by decide +kernel, rfl, by decide +kernel, by decide +kernel⟩
theorem ok_law_number (B : Bl K mg) (d_law_number : Ed K mg "_law_number" (top 27) ["_law_cell", "_law_many", "_law_far"] f_law_number fd_law_number) : FnOk P w K mg base CX0 1 f_law_number fd_law_number ["_law_cell", "_law_many", "_law_far"] (spD K κ false F_law_number) :=
  fun_den d_law_number.F sc_law_number fun cdv A outer s H E hr => have nd := sc_law_number.nd; (dss_cons (ds_if (dt_cmp (dc_eq hr (DE.b (de_mod (db_var 0) (DE.b de_int))) (DE.b de_int))) (dss_one (ds_ret (de_sub (DE.b (de_neg (DE.b de_int))) (DE.b (de_mul (db_var 2) (DE.b (de_mod (DE.b (de_div (db_var 0) (DE.b de_int))) (DE.b de_int)))))))) dss_nil) (dss_cons (ds_if (dt_cmp (dc_eq hr (DE.b (de_mod (db_var 0) (DE.b de_int))) (DE.b de_int))) (dss_one (ds_ret (de_add (db_var 1) (DE.b (de_mul (db_var 2) (DE.b (de_mod (DE.b (de_div (db_var 0) (DE.b de_int))) (DE.b de_int)))))))) dss_nil) (dss_one (ds_ret (de_mod (DE.b (de_div (db_var 0) (DE.b de_int))) (db_var 1))))))
theorem sc_has_hand : FnScope ["group", "hand"] ["group", "hand"] (defScope (top 11)) := ⟨rfl, rfl, rfl, by decide +kernel, rfl, by decide +kernel, by decide +kernel⟩
theorem ok_has_hand (B : Bl K mg) (d_has_hand : Ed K mg "has_hand" (top 11) ["group", "hand"] f_has_hand fd_has_hand) : FnOk P w K mg base CX0 1 f_has_hand fd_has_hand ["group", "hand"] (spD K κ false F_has_hand) :=
  fun_den d_has_hand.F sc_has_hand fun cdv A outer s H E hr => have nd := sc_has_hand.nd; (dss_one (ds_ret (de_cmp (dc_eq hr (DE.b (de_and (DE.b (de_shr (db_var 0) (db_var 1))) (DE.b de_int))) (DE.b de_int)))))
theorem sc_hands_of : FnScope ["group"] ["group"] (defScope (top 12)) := ⟨rfl, rfl, rfl, by decide +kernel, rfl, by decide +kernel, by decide +kernel⟩
theorem ok_hands_of (B : Bl K mg) (d_hands_of : Ed K mg "hands_of" (top 12) ["group"] f_hands_of fd_hands_of) (d_has_hand : Ed K mg "has_hand" (top 11) ["group", "hand"] f_has_hand fd_has_hand) (G_has_hand : FnOk P w K mg base CX0 1 f_has_hand fd_has_hand ["group", "hand"] (spD K κ false F_has_hand)) : FnOk P w K mg base CX0 2 f_hands_of fd_hands_of ["group"] (spD K κ true F_hands_of) :=
  fun_den d_hands_of.F sc_hands_of fun cdv A outer s H E hr => have nd := sc_hands_of.nd; (dss_one (ds_retO (do_compIf (dib_rng1 (DE.b (de_bits (db_var 0))) B.range) (defScope (top 12)) ["group"] ["group"] (fun ex C s H => (dt_val (de_call (G_has_hand.mono (by decide)) hr d_has_hand.m d_has_hand.F.kp d_has_hand.b (da_cons (de_var 1) (da_cons (de_var 0) da_nil))))) (fun ex C s H => (de_var 0)))))
theorem sc_names_of : FnScope ["roll", "group"] ["roll", "group"] (defScope (top 14)) := ⟨rfl, rfl, rfl, by decide +kernel, rfl, by decide +kernel, by decide +kernel⟩
theorem ok_names_of (B : Bl K mg) (d_names_of : Ed K mg "names_of" (top 14) ["roll", "group"] f_names_of fd_names_of) (Z : Zx K mg c_SignError c_NoRoll c_NoHand c_NoGroup c_NoRule c_NoDay c_NoDeputy c_NoEntry c_Unruled) (d_hands_of : Ed K mg "hands_of" (top 12) ["group"] f_hands_of fd_hands_of) (G_hands_of : FnOk P w K mg base CX0 2 f_hands_of fd_hands_of ["group"] (spD K κ true F_hands_of)) : FnOk P w K mg base (CXr P w) 3 f_names_of fd_names_of ["roll", "group"] (spX K κ (fun k => [c_NoGroup, c_NoHand].getD k 0) F_names_of) :=
  fun_denX (fun k => [c_NoGroup, c_NoHand].getD k 0) d_names_of.F sc_names_of fun cdv A outer s H E hr hp hx => have nd := sc_names_of.nd; (dxs_cons (dx_if (dt_not (dt_chainLL (DE.b de_int) (db_var 1) (DE.b (de_shl (DE.b de_int) (DE.b (de_len (db_var 0) B.len)))))) (dxs_one (dx_raise 0 Z.e_NoGroup Z.m_NoGroup (hx c_NoGroup) (dr_fi2 (db_var 1)))) dxs_nil) (dxs_one (dx_retO (do_comp (dib_list (DO.b (do_call (G_hands_of.mono (by decide)) hr d_hands_of.m d_hands_of.F.kp d_hands_of.b (da_cons (de_var 1) da_nil)))) (defScope (top 14)) ["roll", "group"] ["roll", "group"] (fun ex C s H => (de_ix (db_var 1) (db_var 0)))))))
theorem sc_law_kinds : FnScope ["_law_e", "_law_found"] ["_law_e"] (defScope (top 21)) := ⟨rfl, rfl, rfl, by decide +kernel, rfl, by decide +kernel, by decide +kernel⟩
theorem ok_law_kinds (B : Bl K mg) (d_law_kinds : Ed K mg "_law_kinds" (top 21) ["_law_e"] f_law_kinds fd_law_kinds) (Z : Zx K mg c_SignError c_NoRoll c_NoHand c_NoGroup c_NoRule c_NoDay c_NoDeputy c_NoEntry c_Unruled) : FnOk P w K mg base CX0 1 f_law_kinds fd_law_kinds ["_law_e"] (spK (fun k => [c_NoGroup, c_NoHand].getD k 0) ["NoGroup", "NoHand"]) :=
  d_law_kinds.F.ok sc_law_kinds (fun vs H Q E h => by obtain ⟨a, k, x, rfl, _⟩ := h; rfl) fun cdv A outer s H vs Q E hr h => by
    have nd := sc_law_kinds.nd
    obtain ⟨a, k, x, rfl, ha, hk, q⟩ := h
    refine ⟨_, pss_cons (ps_set (i := 1) nd rfl (.inl rfl) (pe_lst pa_nil)) (pss_cons (ps_if (pt_isX B.isinstance Z.m_NoRoll) (pss_one (ps_app 1)) pss_nil) (pss_cons (ps_if (pt_isX B.isinstance Z.m_NoHand) (pss_one (ps_app 1)) pss_nil) (pss_cons (ps_if (pt_isX B.isinstance Z.m_NoGroup) (pss_one (ps_app 1)) pss_nil) (pss_cons (ps_if (pt_isX B.isinstance Z.m_NoRule) (pss_one (ps_app 1)) pss_nil) (pss_cons (ps_if (pt_isX B.isinstance Z.m_NoDay) (pss_one (ps_app 1)) pss_nil) (pss_cons (ps_if (pt_isX B.isinstance Z.m_NoDeputy) (pss_one (ps_app 1)) pss_nil) (pss_cons (ps_if (pt_isX B.isinstance Z.m_NoEntry) (pss_one (ps_app 1)) pss_nil) (pss_cons (ps_if (pt_isX B.isinstance Z.m_Unruled) (pss_one (ps_app 1)) pss_nil) (pss_cons (ps_if (pt_not (pt_isXT (T := "ValueError") B.isinstance B.ValueError (by decide +kernel))) (pss_one (ps_app 1)) pss_nil) (pss_one (ps_ret (pv 1)))))))))))), Nat.zero_le _, fun p hp => ?_⟩
    have pa : a ≠ p := fun z => by rw [z, hp] at ha; cases ha
    have h1 : ∀ l, upd H p l a = H a := fun l => upd_ne pa
    match k, x, hk with
    | 0, _, rfl =>
      refine kd_no (C := c_NoGroup) (by first | exact (h1 _).trans ha | exact (upd_ne pa).trans ((h1 _).trans ha)) Z.x_NoGroup Z.k_NoGroup_NoRoll ?_
      refine kd_no (C := c_NoGroup) (by first | exact (h1 _).trans ha | exact (upd_ne pa).trans ((h1 _).trans ha)) Z.x_NoGroup Z.k_NoGroup_NoHand ?_
      refine kd_yes (C := c_NoGroup) (xs := []) (by first | exact (h1 _).trans ha | exact (upd_ne pa).trans ((h1 _).trans ha)) Z.x_NoGroup Z.k_NoGroup_NoGroup upd_same (by decide) ?_
      refine kd_no (C := c_NoGroup) (by first | exact (h1 _).trans ha | exact (upd_ne pa).trans ((h1 _).trans ha)) Z.x_NoGroup Z.k_NoGroup_NoRule ?_
      refine kd_no (C := c_NoGroup) (by first | exact (h1 _).trans ha | exact (upd_ne pa).trans ((h1 _).trans ha)) Z.x_NoGroup Z.k_NoGroup_NoDay ?_
      refine kd_no (C := c_NoGroup) (by first | exact (h1 _).trans ha | exact (upd_ne pa).trans ((h1 _).trans ha)) Z.x_NoGroup Z.k_NoGroup_NoDeputy ?_
      refine kd_no (C := c_NoGroup) (by first | exact (h1 _).trans ha | exact (upd_ne pa).trans ((h1 _).trans ha)) Z.x_NoGroup Z.k_NoGroup_NoEntry ?_
      refine kd_no (C := c_NoGroup) (by first | exact (h1 _).trans ha | exact (upd_ne pa).trans ((h1 _).trans ha)) Z.x_NoGroup Z.k_NoGroup_Unruled ?_
      refine kd_other (C := c_NoGroup) (by first | exact (h1 _).trans ha | exact (upd_ne pa).trans ((h1 _).trans ha)) Z.x_NoGroup Z.k_NoGroup_ValueError ?_
      refine ⟨.ref p, rfl, ?_⟩
      have e := q p hp
      rw [← upd_upd (o := .lst [])] at e
      exact e
    | 1, _, rfl =>
      refine kd_no (C := c_NoHand) (by first | exact (h1 _).trans ha | exact (upd_ne pa).trans ((h1 _).trans ha)) Z.x_NoHand Z.k_NoHand_NoRoll ?_
      refine kd_yes (C := c_NoHand) (xs := []) (by first | exact (h1 _).trans ha | exact (upd_ne pa).trans ((h1 _).trans ha)) Z.x_NoHand Z.k_NoHand_NoHand upd_same (by decide) ?_
      refine kd_no (C := c_NoHand) (by first | exact (h1 _).trans ha | exact (upd_ne pa).trans ((h1 _).trans ha)) Z.x_NoHand Z.k_NoHand_NoGroup ?_
      refine kd_no (C := c_NoHand) (by first | exact (h1 _).trans ha | exact (upd_ne pa).trans ((h1 _).trans ha)) Z.x_NoHand Z.k_NoHand_NoRule ?_
      refine kd_no (C := c_NoHand) (by first | exact (h1 _).trans ha | exact (upd_ne pa).trans ((h1 _).trans ha)) Z.x_NoHand Z.k_NoHand_NoDay ?_
      refine kd_no (C := c_NoHand) (by first | exact (h1 _).trans ha | exact (upd_ne pa).trans ((h1 _).trans ha)) Z.x_NoHand Z.k_NoHand_NoDeputy ?_
      refine kd_no (C := c_NoHand) (by first | exact (h1 _).trans ha | exact (upd_ne pa).trans ((h1 _).trans ha)) Z.x_NoHand Z.k_NoHand_NoEntry ?_
      refine kd_no (C := c_NoHand) (by first | exact (h1 _).trans ha | exact (upd_ne pa).trans ((h1 _).trans ha)) Z.x_NoHand Z.k_NoHand_Unruled ?_
      refine kd_other (C := c_NoHand) (by first | exact (h1 _).trans ha | exact (upd_ne pa).trans ((h1 _).trans ha)) Z.x_NoHand Z.k_NoHand_ValueError ?_
      refine ⟨.ref p, rfl, ?_⟩
      have e := q p hp
      rw [← upd_upd (o := .lst [])] at e
      exact e
    | _ + 2, _, e => cases e
theorem sc_law_names_told : FnScope ["_law_roll", "_law_group_here", "_law_caught", "_law_told", "_law_e"] ["_law_roll", "_law_group_here"] (defScope (top 26)) := ⟨rfl, rfl, rfl, by decide +kernel, rfl, by decide +kernel, by decide +kernel⟩
theorem ok_law_names_told (B : Bl K mg) (d_law_names_told : Ed K mg "_law_names_told" (top 26) ["_law_roll", "_law_group_here"] f_law_names_told fd_law_names_told) (Z : Zx K mg c_SignError c_NoRoll c_NoHand c_NoGroup c_NoRule c_NoDay c_NoDeputy c_NoEntry c_Unruled) (d_names_of : Ed K mg "names_of" (top 14) ["roll", "group"] f_names_of fd_names_of) (G_names_of : FnOk P w K mg base (CXr P w) 3 f_names_of fd_names_of ["roll", "group"] (spX K κ (fun k => [c_NoGroup, c_NoHand].getD k 0) F_names_of)) (d_law_kinds : Ed K mg "_law_kinds" (top 21) ["_law_e"] f_law_kinds fd_law_kinds) (G_law_kinds : FnOk P w K mg base CX0 1 f_law_kinds fd_law_kinds ["_law_e"] (spK (fun k => [c_NoGroup, c_NoHand].getD k 0) ["NoGroup", "NoHand"])) : FnOk P w K mg base CX0 4 f_law_names_told fd_law_names_told ["_law_roll", "_law_group_here"] (spM K κ F_law_names_told) :=
  d_law_names_told.F.ok sc_law_names_told (fun vs H Q E h => by obtain ⟨A, ps, p, _, h1, h2, _⟩ := h; obtain ⟨p0, e0, _⟩ := Option.bind_eq_some_iff.mp h2; rw [h1.length]; exact fn_len e0) fun cdv A outer s H vs Q E hr h => have nd := sc_law_names_told.nd;
    ⟨_, pss_cons (ps_set (i := 2) nd rfl (.inl rfl) pe_non) (pss_cons (ps_set (i := 3) nd rfl (.inl rfl) pe_non) (pss_cons (ps_try (iy := 3) (iz := 2) (jn := 4) (G_names_of.mono (by decide)) hr d_names_of.m d_names_of.F.kp d_names_of.b (fun E1 => (pa_cons (pv 0) (pa_cons (pv 1) pa_nil))) nd rfl rfl rfl rfl rfl rfl rfl rfl Z.m_SignError) (pss_cons (ps_if (pt_cmp (pc_isN (pv 2))) (pss_one (ps_ret (pv 3))) pss_nil) (pss_one (ps_ret (pe_callTy call_tuple_of (by rfl) B.tuple (by decide +kernel) (pa_cons (pe_call (G_law_kinds.mono (by decide)) hr (by rfl) d_law_kinds.m d_law_kinds.F.kp d_law_kinds.b .nil pass0 (pa_cons (pv 2) pa_nil)) pa_nil))))))),
      rd_told2T rfl (fun k x e => match k, x, e with | 0, _, _ => Z.b_NoGroup | 1, _, _ => Z.b_NoHand | _ + 2, _, e => by cases e) (fun ps p e => fn_len e) h⟩
theorem sc_law_members : FnScope ["_law_roll", "_law_group_here", "_law_names_here", "_law_name_here"] ["_law_roll", "_law_group_here"] (defScope (top 24)) := ⟨rfl, rfl, rfl, by decide +kernel, rfl, by decide +kernel, by decide +kernel⟩
theorem ok_law_members (B : Bl K mg) (d_law_members : Ed K mg "_law_members" (top 24) ["_law_roll", "_law_group_here"] f_law_members fd_law_members) : FnOk P w K mg base CX0 1 f_law_members fd_law_members ["_law_roll", "_law_group_here"] (spD K κ true F_law_members) :=
  fun_den d_law_members.F sc_law_members fun cdv A outer s H E hr => have nd := sc_law_members.nd; (dss_cons (ds_setO 2 nd (do_lst da_nil)) (dss_cons (ds_for (di_tup (de_var 0)) (dg_name 3 nd) (dss_cons (ds_if (dt_cmp (dc_eq hr (DE.b (de_mod (db_var 1) (DE.b de_int))) (DE.b de_int))) (dss_one (ds_append 2 (da_cons (de_var 3) da_nil))) dss_nil) (dss_one (ds_set 1 nd (de_div (db_var 1) (DE.b de_int)))))) (dss_one (ds_retV 2))))
theorem sc_law_same : FnScope ["_law_found", "_law_due", "_law_k"] ["_law_found", "_law_due"] (defScope (top 20)) := ⟨rfl, rfl, rfl, by decide +kernel, rfl, by decide +kernel, by decide +kernel⟩
theorem okr_law_same (B : Bl K mg) (d_law_same : Ed K mg "_law_same" (top 20) ["_law_found", "_law_due"] f_law_same fd_law_same) : ∀ n : Nat, FnOk P w K mg base CX0 n f_law_same fd_law_same ["_law_found", "_law_due"] (spD K κ false (Fr_law_same n))
  | 0 => fnok_none
  | n + 1 => have G_law_same := okr_law_same B d_law_same n; fun_den d_law_same.F sc_law_same fun cdv A outer s H E hr => have nd := sc_law_same.nd; (dss_cons (ds_if (DW.t (dw_or (dt_val (de_isinst_tuple (db_var 1) B.isinstance B.tuple)) (dw_or1 (dt_val (de_isinst_list (db_var 1) B.isinstance B.list))))) (dss_cons (ds_if (DW.t (dw_or (dt_cmp (dc_ne hr (DE.b (de_isinst_tuple (db_var 0) B.isinstance B.tuple)) (DE.b (de_isinst_tuple (db_var 1) B.isinstance B.tuple)))) (dw_or1 (dt_cmp (dc_ne hr (DE.b (de_isinst_list (db_var 0) B.isinstance B.list)) (DE.b (de_isinst_list (db_var 1) B.isinstance B.list))))))) (dss_one (ds_ret de_bl)) dss_nil) (dss_cons (ds_if (dt_cmp (dc_ne hr (DE.b (de_len (db_var 0) B.len)) (DE.b (de_len (db_var 1) B.len)))) (dss_one (ds_ret de_bl)) dss_nil) (dss_cons (ds_for (di_rng1 (DE.b (de_len (db_var 1) B.len)) B.range) (dg_name 2 nd) (dss_one (ds_if (dt_not (dt_val (de_call G_law_same hr d_law_same.m d_law_same.F.kp d_law_same.b (da_cons (de_ix (db_var 0) (db_var 2)) (da_cons (de_ix (db_var 1) (db_var 2)) da_nil))))) (dss_one (ds_ret de_bl)) dss_nil))) (dss_one (ds_ret de_bl))))) dss_nil) (dss_cons (ds_if (dt_val (de_isinst_bool (db_var 1) B.isinstance B.bool)) (dss_one (ds_ret (de_andV (de_isinst_bool (db_var 0) B.isinstance B.bool) (de_one (de_cmp (dc_eq hr (db_var 0) (db_var 1))))))) dss_nil) (dss_cons (ds_if (dt_val (de_isinst_int (db_var 1) B.isinstance B.int)) (dss_one (ds_ret (de_andV (de_isinst_int (db_var 0) B.isinstance B.int) (de_andV (de_notV (de_isinst_bool (db_var 0) B.isinstance B.bool)) (de_one (de_cmp (dc_eq hr (db_var 0) (db_var 1)))))))) dss_nil) (dss_cons (ds_if (dt_val (de_isinst_str (db_var 1) B.isinstance B.str)) (dss_one (ds_ret (de_andV (de_isinst_str (db_var 0) B.isinstance B.str) (de_one (de_cmp (dc_eq hr (db_var 0) (db_var 1))))))) dss_nil) (dss_one (ds_ret (de_andV (de_cmp (dc_isN (db_var 1))) (de_one (de_cmp (dc_isN (db_var 0)))))))))))
theorem ok_law_same (B : Bl K mg) (d_law_same : Ed K mg "_law_same" (top 20) ["_law_found", "_law_due"] f_law_same fd_law_same) : FnOk P w K mg base CX0 4 f_law_same fd_law_same ["_law_found", "_law_due"] (spD K κ false F_law_same) := okr_law_same B d_law_same 4
theorem sc_law_name : FnScope ["_law_base_here", "_law_place", "_law_size", "_law_k", "_law_letters", "_law_other"] ["_law_base_here", "_law_place", "_law_size", "_law_k"] (defScope (top 18)) := ⟨rfl, rfl, rfl, by decide +kernel, rfl, by decide +kernel, by decide +kernel⟩
theorem ok_law_name (B : Bl K mg) (d_law_name : Ed K mg "_law_name" (top 18) ["_law_base_here", "_law_place", "_law_size", "_law_k"] f_law_name fd_law_name) : FnOk P w K mg base CX0 1 f_law_name fd_law_name ["_law_base_here", "_law_place", "_law_size", "_law_k"] (spD K κ false F_law_name) :=
  fun_den d_law_name.F sc_law_name fun cdv A outer s H E hr => have nd := sc_law_name.nd; (dss_cons (ds_set 4 nd de_str) (dss_cons (ds_set 5 nd (de_ix (db_var 4) (DE.b (de_mod (DE.b (de_add (DE.b (de_find (db_var 4) (DE.b (de_ix (db_var 0) (db_var 1))))) (DE.b (de_mul (DE.b de_int) (db_var 3))))) (DE.b de_int))))) (dss_one (ds_ret (de_add (DE.b (de_add (DE.b (de_sliceA (db_var 0) dp_none (dp_some (db_var 1)))) (db_var 5))) (DE.b (de_sliceA (db_var 0) (dp_some (DE.b (de_add (db_var 1) (DE.b de_int)))) (dp_some (db_var 2)))))))))
theorem sc_law_base : FnScope ["_law_cell", "_law_size", "_law_number_here", "_law_found", "_law_k"] ["_law_cell", "_law_size"] (defScope (top 17)) := ⟨rfl, rfl, rfl, by decide +kernel, rfl, by decide +kernel, by decide +kernel⟩
theorem ok_law_base (B : Bl K mg) (d_law_base : Ed K mg "_law_base" (top 17) ["_law_cell", "_law_size"] f_law_base fd_law_base) : FnOk P w K mg base CX0 1 f_law_base fd_law_base ["_law_cell", "_law_size"] (spD K κ false F_law_base) :=
  fun_den d_law_base.F sc_law_base fun cdv A outer s H E hr => have nd := sc_law_base.nd; (dss_cons (ds_set 2 nd (de_mod (DE.b (de_add (DE.b (de_mul (DE.b (de_mod (db_var 0) (DE.b de_int))) (DE.b de_int))) (DE.b de_int))) (DE.b de_int))) (dss_cons (ds_set 3 nd de_str) (dss_cons (ds_for (di_rng1 (db_var 1) B.range) (dg_name 4 nd) (dss_cons (ds_set 2 nd (de_mod (DE.b (de_add (DE.b (de_add (DE.b (de_add (DE.b (de_mul (db_var 2) (db_var 2))) (DE.b (de_mul (DE.b de_int) (db_var 2))))) (db_var 4))) (DE.b de_int))) (DE.b de_int))) (dss_one (ds_set 3 nd (de_add (db_var 3) (DE.b (de_ix (DE.b de_str) (DE.b (de_mod (db_var 2) (DE.b de_int)))))))))) (dss_one (ds_ret (de_var 3))))))
theorem sc_law_names : FnScope ["_law_script", "_law_at", "_law_many", "_law_cell", "_law_size", "_law_more", "_law_word", "_law_base_here", "_law_names_here", "_law_k", "_law_name_here"] ["_law_script", "_law_at", "_law_many"] (defScope (top 19)) := ⟨rfl, rfl, rfl, by decide +kernel, rfl, by decide +kernel, by decide +kernel⟩
theorem ok_law_names (B : Bl K mg) (d_law_names : Ed K mg "_law_names" (top 19) ["_law_script", "_law_at", "_law_many"] f_law_names fd_law_names) (d_law_cell_at : Ed K mg "_law_cell_at" (top 16) ["_law_script", "_law_k"] f_law_cell_at fd_law_cell_at) (G_law_cell_at : FnOk P w K mg base CX0 1 f_law_cell_at fd_law_cell_at ["_law_script", "_law_k"] (spD K κ false F_law_cell_at)) (d_law_name : Ed K mg "_law_name" (top 18) ["_law_base_here", "_law_place", "_law_size", "_law_k"] f_law_name fd_law_name) (G_law_name : FnOk P w K mg base CX0 1 f_law_name fd_law_name ["_law_base_here", "_law_place", "_law_size", "_law_k"] (spD K κ false F_law_name)) (d_law_base : Ed K mg "_law_base" (top 17) ["_law_cell", "_law_size"] f_law_base fd_law_base) (G_law_base : FnOk P w K mg base CX0 1 f_law_base fd_law_base ["_law_cell", "_law_size"] (spD K κ false F_law_base)) : FnOk P w K mg base CX0 2 f_law_names fd_law_names ["_law_script", "_law_at", "_law_many"] (spD K κ true F_law_names) :=
  fun_den d_law_names.F sc_law_names fun cdv A outer s H E hr => have nd := sc_law_names.nd; (dss_cons (ds_set 3 nd (de_call (G_law_cell_at.mono (by decide)) hr d_law_cell_at.m d_law_cell_at.F.kp d_law_cell_at.b (da_cons (de_var 0) (da_cons (de_var 1) da_nil)))) (dss_cons (ds_set 4 nd (de_add (DE.b de_int) (DE.b (de_mod (db_var 3) (DE.b de_int))))) (dss_cons (ds_set 5 nd (de_call (G_law_cell_at.mono (by decide)) hr d_law_cell_at.m d_law_cell_at.F.kp d_law_cell_at.b (da_cons (de_var 0) (da_cons (de_add (db_var 1) (DE.b de_int)) da_nil)))) (dss_cons (ds_set 6 nd (de_ix (DO.b (do_lst (da_cons de_str (da_cons de_str (da_cons de_str (da_cons de_str (da_cons de_str (da_cons de_str (da_cons de_str (da_cons de_str da_nil)))))))))) (DE.b (de_mod (db_var 5) (DE.b de_int))))) (dss_cons (ds_set 7 nd (de_sliceA (DE.b (de_add (db_var 6) (DE.b (de_call (G_law_base.mono (by decide)) hr d_law_base.m d_law_base.F.kp d_law_base.b (da_cons (de_div (db_var 5) (DE.b de_int)) (da_cons de_int da_nil)))))) dp_none (dp_some (DE.b de_int)))) (dss_cons (ds_setO 8 nd (do_lst da_nil)) (dss_cons (ds_for (di_rng1 (db_var 2) B.range) (dg_name 9 nd) (dss_cons (ds_set 10 nd (de_call (G_law_name.mono (by decide)) hr d_law_name.m d_law_name.F.kp d_law_name.b (da_cons (de_var 7) (da_cons (de_mod (DE.b (de_div (db_var 3) (DE.b de_int))) (db_var 4)) (da_cons (de_var 4) (da_cons (de_var 9) da_nil)))))) (dss_cons (ds_if (dt_cmp (dc_eq hr (DE.b (de_mod (DE.b (de_div (db_var 3) (DE.b de_int))) (DE.b de_int))) (DE.b de_int))) (dss_one (ds_set 10 nd (de_sliceA (db_var 7) dp_none (dp_some (DE.b (de_add (db_var 9) (DE.b de_int))))))) dss_nil) (dss_cons (ds_if (dt_cmp (dc_in (db_var 10) (DE.b (de_tup (da_cons de_str (da_cons de_str (da_cons de_str da_nil))))))) (dss_one (ds_set 10 nd (de_revS (db_var 10) (DE.b (de_neg (DE.b de_int)))))) dss_nil) (dss_one (ds_append 8 (da_cons (de_var 10) da_nil))))))) (dss_one (ds_retV 8)))))))))
theorem sc_law_no_hand : FnScope ["_law_roll", "_law_name_here", "_law_cell", "_law_other"] ["_law_roll", "_law_name_here", "_law_cell"] (defScope (top 22)) := ⟨rfl, rfl, rfl, by decide +kernel, rfl, by decide +kernel, by decide +kernel⟩
theorem ok_law_no_hand (B : Bl K mg) (d_law_no_hand : Ed K mg "_law_no_hand" (top 22) ["_law_roll", "_law_name_here", "_law_cell"] f_law_no_hand fd_law_no_hand) : FnOk P w K mg base CX0 1 f_law_no_hand fd_law_no_hand ["_law_roll", "_law_name_here", "_law_cell"] (spD K κ false F_law_no_hand) :=
  fun_den d_law_no_hand.F sc_law_no_hand fun cdv A outer s H E hr => have nd := sc_law_no_hand.nd; (dss_cons (ds_set 3 nd (de_ix (DO.b (do_lst (da_cons (de_sliceA (db_var 1) dp_none (dp_some (DE.b (de_neg (DE.b de_int))))) (da_cons (de_add (db_var 1) (DE.b de_str)) (da_cons de_str (da_cons (de_add (DE.b (de_sliceA (db_var 1) dp_none (dp_some (DE.b (de_neg (DE.b de_int)))))) (DE.b (de_upper (DE.b (de_ix (db_var 1) (DE.b (de_neg (DE.b de_int)))))))) (da_cons de_str da_nil))))))) (DE.b (de_mod (db_var 2) (DE.b de_int))))) (dss_cons (ds_while 1000 (dt_cmp (dc_in (db_var 3) (db_var 0))) (dss_one (ds_set 3 nd (de_add (db_var 3) (DE.b de_str))))) (dss_one (ds_ret (de_var 3)))))
theorem sc_group_of : FnScope ["roll", "names", "group", "name"] ["roll", "names"] (defScope (top 13)) := ⟨rfl, rfl, rfl, by decide +kernel, rfl, by decide +kernel, by decide +kernel⟩
theorem ok_group_of (B : Bl K mg) (d_group_of : Ed K mg "group_of" (top 13) ["roll", "names"] f_group_of fd_group_of) (Z : Zx K mg c_SignError c_NoRoll c_NoHand c_NoGroup c_NoRule c_NoDay c_NoDeputy c_NoEntry c_Unruled) : FnOk P w K mg base (CXr P w) 1 f_group_of fd_group_of ["roll", "names"] (spX K κ (fun k => [c_NoGroup, c_NoHand].getD k 0) F_group_of) :=
  fun_denX (fun k => [c_NoGroup, c_NoHand].getD k 0) d_group_of.F sc_group_of fun cdv A outer s H E hr hp hx => have nd := sc_group_of.nd; (dxs_cons (dx_of (ds_set 2 nd de_int) nr_set) (dxs_cons (dx_for hp (di_list (de_var 1)) (dg_name 3 nd) (dxs_cons (dx_if (dt_cmp (dc_notIn (db_var 3) (db_var 0))) (dxs_one (dx_raise 1 Z.e_NoHand Z.m_NoHand (hx c_NoHand) (dr_fr (db_var 3)))) dxs_nil) (dxs_one (dx_of (ds_set 2 nd (de_or (db_var 2) (DE.b (de_shl (DE.b de_int) (DE.b (de_index (db_var 0) (db_var 3))))))) nr_set)))) (dxs_one (dx_ret (de_var 2)))))
theorem sc_law_group_told : FnScope ["_law_roll", "_law_names_here", "_law_caught", "_law_told", "_law_e"] ["_law_roll", "_law_names_here"] (defScope (top 25)) := ⟨rfl, rfl, rfl, by decide +kernel, rfl, by decide +kernel, by decide +kernel⟩
theorem ok_law_group_told (B : Bl K mg) (d_law_group_told : Ed K mg "_law_group_told" (top 25) ["_law_roll", "_law_names_here"] f_law_group_told fd_law_group_told) (Z : Zx K mg c_SignError c_NoRoll c_NoHand c_NoGroup c_NoRule c_NoDay c_NoDeputy c_NoEntry c_Unruled) (d_law_kinds : Ed K mg "_law_kinds" (top 21) ["_law_e"] f_law_kinds fd_law_kinds) (G_law_kinds : FnOk P w K mg base CX0 1 f_law_kinds fd_law_kinds ["_law_e"] (spK (fun k => [c_NoGroup, c_NoHand].getD k 0) ["NoGroup", "NoHand"])) (d_group_of : Ed K mg "group_of" (top 13) ["roll", "names"] f_group_of fd_group_of) (G_group_of : FnOk P w K mg base (CXr P w) 1 f_group_of fd_group_of ["roll", "names"] (spX K κ (fun k => [c_NoGroup, c_NoHand].getD k 0) F_group_of)) : FnOk P w K mg base CX0 2 f_law_group_told fd_law_group_told ["_law_roll", "_law_names_here"] (spD K κ false F_law_group_told) :=
  d_law_group_told.F.ok sc_law_group_told (fun vs H Q E h => by obtain ⟨A, ps, p, _, h1, h2, _⟩ := h; obtain ⟨p0, e0, _⟩ := Option.bind_eq_some_iff.mp h2; rw [h1.length]; exact fn_len e0) fun cdv A outer s H vs Q E hr h => have nd := sc_law_group_told.nd;
    ⟨_, pss_cons (ps_set (i := 2) nd rfl (.inl rfl) pe_non) (pss_cons (ps_set (i := 3) nd rfl (.inl rfl) pe_non) (pss_cons (ps_try (iy := 3) (iz := 2) (jn := 4) (G_group_of.mono (by decide)) hr d_group_of.m d_group_of.F.kp d_group_of.b (fun E1 => (pa_cons (pv 0) (pa_cons (pv 1) pa_nil))) nd rfl rfl rfl rfl rfl rfl rfl rfl Z.m_SignError) (pss_cons (ps_if (pt_cmp (pc_isN (pv 2))) (pss_one (ps_ret (pv 3))) pss_nil) (pss_one (ps_ret (pe_call (G_law_kinds.mono (by decide)) hr (by rfl) d_law_kinds.m d_law_kinds.F.kp d_law_kinds.b .nil pass0 (pa_cons (pv 2) pa_nil))))))),
      rd_told2 rfl (fun k x e => match k, x, e with | 0, _, _ => Z.b_NoGroup | 1, _, _ => Z.b_NoHand | _ + 2, _, e => by cases e) (fun ps p e => fn_len e) h⟩
theorem sc_law : FnScope ["_law_script", "_law_first", "_law_roll", "_law_names_here", "_law_due", "_law_at", "_law_handed", "_law_group_here", "_law_told", "_law_kept"] ["_law_script"] (defScope (top 28)) := ⟨rfl, rfl, rfl, by decide +kernel, rfl, by decide +kernel, by decide +kernel⟩
theorem ok_law (B : Bl K mg) (d_law : Ed K mg "law" (top 28) ["_law_script"] f_law fd_law) (d_law_cell_at : Ed K mg "_law_cell_at" (top 16) ["_law_script", "_law_k"] f_law_cell_at fd_law_cell_at) (G_law_cell_at : FnOk P w K mg base CX0 1 f_law_cell_at fd_law_cell_at ["_law_script", "_law_k"] (spD K κ false F_law_cell_at)) (d_law_group : Ed K mg "_law_group" (top 23) ["_law_roll", "_law_names_here"] f_law_group fd_law_group) (G_law_group : FnOk P w K mg base CX0 1 f_law_group fd_law_group ["_law_roll", "_law_names_here"] (spD K κ false F_law_group)) (d_law_number : Ed K mg "_law_number" (top 27) ["_law_cell", "_law_many", "_law_far"] f_law_number fd_law_number) (G_law_number : FnOk P w K mg base CX0 1 f_law_number fd_law_number ["_law_cell", "_law_many", "_law_far"] (spD K κ false F_law_number)) (d_law_names_told : Ed K mg "_law_names_told" (top 26) ["_law_roll", "_law_group_here"] f_law_names_told fd_law_names_told) (G_law_names_told : FnOk P w K mg base CX0 4 f_law_names_told fd_law_names_told ["_law_roll", "_law_group_here"] (spM K κ F_law_names_told)) (d_law_members : Ed K mg "_law_members" (top 24) ["_law_roll", "_law_group_here"] f_law_members fd_law_members) (G_law_members : FnOk P w K mg base CX0 1 f_law_members fd_law_members ["_law_roll", "_law_group_here"] (spD K κ true F_law_members)) (d_law_same : Ed K mg "_law_same" (top 20) ["_law_found", "_law_due"] f_law_same fd_law_same) (G_law_same : FnOk P w K mg base CX0 4 f_law_same fd_law_same ["_law_found", "_law_due"] (spD K κ false F_law_same)) (d_law_names : Ed K mg "_law_names" (top 19) ["_law_script", "_law_at", "_law_many"] f_law_names fd_law_names) (G_law_names : FnOk P w K mg base CX0 2 f_law_names fd_law_names ["_law_script", "_law_at", "_law_many"] (spD K κ true F_law_names)) (d_law_no_hand : Ed K mg "_law_no_hand" (top 22) ["_law_roll", "_law_name_here", "_law_cell"] f_law_no_hand fd_law_no_hand) (G_law_no_hand : FnOk P w K mg base CX0 1 f_law_no_hand fd_law_no_hand ["_law_roll", "_law_name_here", "_law_cell"] (spD K κ false F_law_no_hand)) (d_law_group_told : Ed K mg "_law_group_told" (top 25) ["_law_roll", "_law_names_here"] f_law_group_told fd_law_group_told) (G_law_group_told : FnOk P w K mg base CX0 2 f_law_group_told fd_law_group_told ["_law_roll", "_law_names_here"] (spD K κ false F_law_group_told)) : FnOk P w K mg base CX0 5 f_law fd_law ["_law_script"] (spD K κ false F_law) :=
  fun_den d_law.F sc_law fun cdv A outer s H E hr => have nd := sc_law.nd; (dss_cons (ds_set 1 nd (de_call (G_law_cell_at.mono (by decide)) hr d_law_cell_at.m d_law_cell_at.F.kp d_law_cell_at.b (da_cons (de_var 0) (da_cons de_int da_nil)))) (dss_cons (ds_set 2 nd (de_tuple (DO.b (do_call (G_law_names.mono (by decide)) hr d_law_names.m d_law_names.F.kp d_law_names.b (da_cons (de_var 0) (da_cons de_int (da_cons (de_add (DE.b de_int) (DE.b (de_mod (db_var 1) (DE.b de_int)))) da_nil))))) B.tuple)) (dss_cons (ds_setCO 3 nd (dib_list (DO.b (do_slice (db_var 0) (dp_some (DE.b de_int)) (dp_some (DE.b de_int))))) (defScope (top 28)) ["_law_script", "_law_first", "_law_roll", "_law_names_here", "_law_due", "_law_at", "_law_handed", "_law_group_here", "_law_told", "_law_kept"] ["_law_script", "_law_first", "_law_roll", "_law_names_here", "_law_due", "_law_at", "_law_handed", "_law_group_here", "_law_told", "_law_kept"] (fun ex C s H => (de_ix (db_var 3) (DE.b (de_mod (db_var 0) (DE.b (de_len (db_var 3) B.len))))))) (dss_cons (ds_set 4 nd (de_callF (G_law_group.mono (by decide)) hr d_law_group.m d_law_group.F.kp d_law_group.b (dab_cons (db_var 2) (dab_cons (db_var 3) dab_nil)))) (dss_cons (ds_if (dt_cmp (dc_eq hr (DE.b (de_mod (DE.b (de_div (db_var 1) (DE.b de_int))) (DE.b de_int))) (DE.b de_int))) (dss_cons (ds_set 5 nd (de_mod (DE.b (de_div (db_var 1) (DE.b de_int))) (DE.b (de_add (DE.b (de_len (db_var 3) B.len)) (DE.b de_int))))) (dss_cons (ds_insert 3 (da_cons (de_var 5) (da_cons (de_call (G_law_no_hand.mono (by decide)) hr d_law_no_hand.m d_law_no_hand.F.kp d_law_no_hand.b (da_cons (de_var 2) (da_cons (de_ix (db_var 2) (DE.b (de_mod (DE.b (de_div (db_var 1) (DE.b de_int))) (DE.b (de_len (db_var 2) B.len))))) (da_cons (de_call (G_law_cell_at.mono (by decide)) hr d_law_cell_at.m d_law_cell_at.F.kp d_law_cell_at.b (da_cons (de_var 0) (da_cons de_int da_nil))) da_nil)))) da_nil))) (dss_one (ds_set 4 nd (DO.e (do_lst (da_cons de_str da_nil))))))) dss_nil) (dss_cons (ds_set 6 nd (DO.e (do_list (db_var 3) B.list))) (dss_cons (ds_if (DW.t (dw_or (dt_not (dt_val (de_call (G_law_same.mono (by decide)) hr d_law_same.m d_law_same.F.kp d_law_same.b (da_cons (de_call (G_law_group_told.mono (by decide)) hr d_law_group_told.m d_law_group_told.F.kp d_law_group_told.b (da_cons (de_var 2) (da_cons (de_var 6) da_nil))) (da_cons (de_var 4) da_nil))))) (dw_or1 (dt_not (dt_val (de_callF (G_law_same.mono (by decide)) hr d_law_same.m d_law_same.F.kp d_law_same.b (dab_cons (db_var 6) (dab_cons (db_var 3) dab_nil)))))))) (dss_one (ds_ret de_bl)) dss_nil) (dss_cons (ds_if (dt_not (dt_val (de_call (G_law_same.mono (by decide)) hr d_law_same.m d_law_same.F.kp d_law_same.b (da_cons (de_call (G_law_group_told.mono (by decide)) hr d_law_group_told.m d_law_group_told.F.kp d_law_group_told.b (da_cons (de_var 2) (da_cons (DO.e (do_revL (db_var 3) (DE.b (de_neg (DE.b de_int))))) da_nil))) (da_cons (de_var 4) da_nil))))) (dss_one (ds_ret de_bl)) dss_nil) (dss_cons (ds_set 7 nd (de_call (G_law_number.mono (by decide)) hr d_law_number.m d_law_number.F.kp d_law_number.b (da_cons (de_call (G_law_cell_at.mono (by decide)) hr d_law_cell_at.m d_law_cell_at.F.kp d_law_cell_at.b (da_cons (de_var 0) (da_cons de_int da_nil))) (da_cons (de_shl (DE.b de_int) (DE.b (de_len (db_var 2) B.len))) (da_cons (de_mod (DE.b (de_call (G_law_cell_at.mono (by decide)) hr d_law_cell_at.m d_law_cell_at.F.kp d_law_cell_at.b (da_cons (de_var 0) (da_cons de_int da_nil)))) (DE.b (de_pow (DE.b de_int) (DE.b de_int)))) da_nil))))) (dss_cons (ds_setA 8 nd (dm_call (G_law_names_told.mono (by decide)) hr d_law_names_told.m d_law_names_told.F.kp d_law_names_told.b (da_cons (de_var 2) (da_cons (de_var 7) da_nil)))) (dss_cons (ds_if (DW.t (dw_or (dt_cmp (dc_lt (db_var 7) (DE.b de_int))) (dw_or1 (dt_cmp (dc_ge (db_var 7) (DE.b (de_shl (DE.b de_int) (DE.b (de_len (db_var 2) B.len))))))))) (dss_one (ds_ret (de_cmp (dc_eq hr (db_var 8) (DE.b (de_tup (da_cons de_str da_nil))))))) dss_nil) (dss_cons (ds_set 9 nd (DO.e (do_call (G_law_members.mono (by decide)) hr d_law_members.m d_law_members.F.kp d_law_members.b (da_cons (de_var 2) (da_cons (de_var 7) da_nil))))) (dss_cons (ds_if (dt_not (dt_val (de_callF (G_law_same.mono (by decide)) hr d_law_same.m d_law_same.F.kp d_law_same.b (dab_cons (db_var 8) (dab_cons (db_var 9) dab_nil))))) (dss_one (ds_ret de_bl)) dss_nil) (dss_cons (ds_clear 8) (dss_one (ds_ret (de_call (G_law_same.mono (by decide)) hr d_law_same.m d_law_same.F.kp d_law_same.b (da_cons (DM.de (dm_call (G_law_names_told.mono (by decide)) hr d_law_names_told.m d_law_names_told.F.kp d_law_names_told.b (da_cons (de_var 2) (da_cons (de_var 7) da_nil)))) (da_cons (de_var 9) da_nil)))))))))))))))))))
end
section
variable {l : PySem.W.OpenLaw} {w : World} {K : PySem.W.Frag} {h : Heap} {mg : Str → Option Value}
theorem all_mk {fa : Addr} (X : K.In h) (G : h.Ns mainGlobals mg) (hfa : mg "law" = some (.ref fa))
    {c_SignError c_NoRoll c_NoHand c_NoGroup c_NoRule c_NoDay c_NoDeputy c_NoEntry c_Unruled : Addr}
    {cd_base : ClassData}
    {cd_NoGroup : ClassData}
    {cd_NoHand : ClassData}
    {od_law_cell_at an_law_cell_at : Option Addr} {sl_law_cell_at : Array (Option Value)} {oc_law_cell_at kV_law_cell_at dc_law_cell_at pm_law_cell_at cd_law_cell_at ct_law_cell_at : Value} {f_law_cell_at : Addr}
    {od_law_group an_law_group : Option Addr} {sl_law_group : Array (Option Value)} {oc_law_group kV_law_group dc_law_group pm_law_group cd_law_group ct_law_group : Value} {f_law_group : Addr}
    {od_law_number an_law_number : Option Addr} {sl_law_number : Array (Option Value)} {oc_law_number kV_law_number dc_law_number pm_law_number cd_law_number ct_law_number : Value} {f_law_number : Addr}
    {od_has_hand an_has_hand : Option Addr} {sl_has_hand : Array (Option Value)} {oc_has_hand kV_has_hand dc_has_hand pm_has_hand cd_has_hand ct_has_hand : Value} {f_has_hand : Addr}
    {od_hands_of an_hands_of : Option Addr} {sl_hands_of : Array (Option Value)} {oc_hands_of kV_hands_of dc_hands_of pm_hands_of cd_hands_of ct_hands_of : Value} {f_hands_of : Addr}
    {od_names_of an_names_of : Option Addr} {sl_names_of : Array (Option Value)} {oc_names_of kV_names_of dc_names_of pm_names_of cd_names_of ct_names_of : Value} {f_names_of : Addr}
    {od_law_kinds an_law_kinds : Option Addr} {sl_law_kinds : Array (Option Value)} {oc_law_kinds kV_law_kinds dc_law_kinds pm_law_kinds cd_law_kinds ct_law_kinds : Value} {f_law_kinds : Addr}
    {od_law_names_told an_law_names_told : Option Addr} {sl_law_names_told : Array (Option Value)} {oc_law_names_told kV_law_names_told dc_law_names_told pm_law_names_told cd_law_names_told ct_law_names_told : Value} {f_law_names_told : Addr}
    {od_law_members an_law_members : Option Addr} {sl_law_members : Array (Option Value)} {oc_law_members kV_law_members dc_law_members pm_law_members cd_law_members ct_law_members : Value} {f_law_members : Addr}
    {od_law_same an_law_same : Option Addr} {sl_law_same : Array (Option Value)} {oc_law_same kV_law_same dc_law_same pm_law_same cd_law_same ct_law_same : Value} {f_law_same : Addr}
    {od_law_name an_law_name : Option Addr} {sl_law_name : Array (Option Value)} {oc_law_name kV_law_name dc_law_name pm_law_name cd_law_name ct_law_name : Value} {f_law_name : Addr}
    {od_law_base an_law_base : Option Addr} {sl_law_base : Array (Option Value)} {oc_law_base kV_law_base dc_law_base pm_law_base cd_law_base ct_law_base : Value} {f_law_base : Addr}
    {od_law_names an_law_names : Option Addr} {sl_law_names : Array (Option Value)} {oc_law_names kV_law_names dc_law_names pm_law_names cd_law_names ct_law_names : Value} {f_law_names : Addr}
    {od_law_no_hand an_law_no_hand : Option Addr} {sl_law_no_hand : Array (Option Value)} {oc_law_no_hand kV_law_no_hand dc_law_no_hand pm_law_no_hand cd_law_no_hand ct_law_no_hand : Value} {f_law_no_hand : Addr}
    {od_group_of an_group_of : Option Addr} {sl_group_of : Array (Option Value)} {oc_group_of kV_group_of dc_group_of pm_group_of cd_group_of ct_group_of : Value} {f_group_of : Addr}
    {od_law_group_told an_law_group_told : Option Addr} {sl_law_group_told : Array (Option Value)} {oc_law_group_told kV_law_group_told dc_law_group_told pm_law_group_told cd_law_group_told ct_law_group_told : Value} {f_law_group_told : Addr}
    {od_law an_law : Option Addr} {sl_law : Array (Option Value)} {oc_law kV_law dc_law pm_law cd_law ct_law : Value} {f_law : Addr}
    (a_SignError : PySem.W.nsIn K mainGlobals "SignError" = some (some (.ref c_SignError)))
    (a_NoRoll : PySem.W.nsIn K mainGlobals "NoRoll" = some (some (.ref c_NoRoll)))
    (a_NoHand : PySem.W.nsIn K mainGlobals "NoHand" = some (some (.ref c_NoHand)))
    (a_NoGroup : PySem.W.nsIn K mainGlobals "NoGroup" = some (some (.ref c_NoGroup)))
    (a_NoRule : PySem.W.nsIn K mainGlobals "NoRule" = some (some (.ref c_NoRule)))
    (a_NoDay : PySem.W.nsIn K mainGlobals "NoDay" = some (some (.ref c_NoDay)))
    (a_NoDeputy : PySem.W.nsIn K mainGlobals "NoDeputy" = some (some (.ref c_NoDeputy)))
    (a_NoEntry : PySem.W.nsIn K mainGlobals "NoEntry" = some (some (.ref c_NoEntry)))
    (a_Unruled : PySem.W.nsIn K mainGlobals "Unruled" = some (some (.ref c_Unruled)))
    (in_ : PySem.W.specialIn K (.builtin "object.__class__") "__get__" = some (some (.builtin "getset_descriptor.__get__")))
    (it_ : PySem.W.takesIn K (.builtin "object.__class__") = some true)
    (bt_ : PySem.W.instIn K (.ref c_SignError) (.type "tuple") = some false)
    (bs_ : PySem.W.clsIn K c_SignError = some cd_base)
    (bb_ : PySem.W.mroIn K c_SignError (.type "BaseException") = some true)
    (ex_NoGroup : PySem.W.excIn K c_NoGroup bmV "ValueError.__new__" = true)
    (xg_NoGroup : PySem.W.findIn K (.ref c_NoGroup) "__getattribute__" = some (some (.builtin "BaseException.__getattribute__")))
    (xh_NoGroup : PySem.W.findIn K (.ref c_NoGroup) "__getattr__" = some none)
    (xc_NoGroup : PySem.W.findIn K (.ref c_NoGroup) "__class__" = some (some (.builtin "object.__class__")))
    (xm_NoGroup : PySem.W.mroIn K c_NoGroup (.type "object") = some true)
    (xb_NoGroup : PySem.W.mroIn K c_NoGroup (.type "BaseException") = some true)
    (xs_NoGroup : PySem.W.clsIn K c_NoGroup = some cd_NoGroup)
    (b4_NoGroup : PySem.W.mroIn K c_NoGroup (.ref c_SignError) = some true)
    (ik_NoGroup_NoRoll : PySem.W.kitOne K (.ref c_NoGroup) (.ref c_NoRoll) = some false)
    (ik_NoGroup_NoHand : PySem.W.kitOne K (.ref c_NoGroup) (.ref c_NoHand) = some false)
    (ik_NoGroup_NoGroup : PySem.W.kitOne K (.ref c_NoGroup) (.ref c_NoGroup) = some true)
    (ik_NoGroup_NoRule : PySem.W.kitOne K (.ref c_NoGroup) (.ref c_NoRule) = some false)
    (ik_NoGroup_NoDay : PySem.W.kitOne K (.ref c_NoGroup) (.ref c_NoDay) = some false)
    (ik_NoGroup_NoDeputy : PySem.W.kitOne K (.ref c_NoGroup) (.ref c_NoDeputy) = some false)
    (ik_NoGroup_NoEntry : PySem.W.kitOne K (.ref c_NoGroup) (.ref c_NoEntry) = some false)
    (ik_NoGroup_Unruled : PySem.W.kitOne K (.ref c_NoGroup) (.ref c_Unruled) = some false)
    (ik_NoGroup_ValueError : PySem.W.kitOne K (.ref c_NoGroup) (.type "ValueError") = some true)
    (ex_NoHand : PySem.W.excIn K c_NoHand bmV "ValueError.__new__" = true)
    (xg_NoHand : PySem.W.findIn K (.ref c_NoHand) "__getattribute__" = some (some (.builtin "BaseException.__getattribute__")))
    (xh_NoHand : PySem.W.findIn K (.ref c_NoHand) "__getattr__" = some none)
    (xc_NoHand : PySem.W.findIn K (.ref c_NoHand) "__class__" = some (some (.builtin "object.__class__")))
    (xm_NoHand : PySem.W.mroIn K c_NoHand (.type "object") = some true)
    (xb_NoHand : PySem.W.mroIn K c_NoHand (.type "BaseException") = some true)
    (xs_NoHand : PySem.W.clsIn K c_NoHand = some cd_NoHand)
    (b4_NoHand : PySem.W.mroIn K c_NoHand (.ref c_SignError) = some true)
    (ik_NoHand_NoRoll : PySem.W.kitOne K (.ref c_NoHand) (.ref c_NoRoll) = some false)
    (ik_NoHand_NoHand : PySem.W.kitOne K (.ref c_NoHand) (.ref c_NoHand) = some true)
    (ik_NoHand_NoGroup : PySem.W.kitOne K (.ref c_NoHand) (.ref c_NoGroup) = some false)
    (ik_NoHand_NoRule : PySem.W.kitOne K (.ref c_NoHand) (.ref c_NoRule) = some false)
    (ik_NoHand_NoDay : PySem.W.kitOne K (.ref c_NoHand) (.ref c_NoDay) = some false)
    (ik_NoHand_NoDeputy : PySem.W.kitOne K (.ref c_NoHand) (.ref c_NoDeputy) = some false)
    (ik_NoHand_NoEntry : PySem.W.kitOne K (.ref c_NoHand) (.ref c_NoEntry) = some false)
    (ik_NoHand_Unruled : PySem.W.kitOne K (.ref c_NoHand) (.ref c_Unruled) = some false)
    (ik_NoHand_ValueError : PySem.W.kitOne K (.ref c_NoHand) (.type "ValueError") = some true)
    (a_law_cell_at : PySem.W.nsIn K mainGlobals "_law_cell_at" = some (some (.ref f_law_cell_at))) (l_law_cell_at : K.lookup f_law_cell_at = some ⟨oc_law_cell_at, od_law_cell_at, .func (PySem.W.fnOf "_law_cell_at" "_law_cell_at" (defArgs (top 16)) (defBody (top 16)) (defScope (top 16)) .none kV_law_cell_at dc_law_cell_at pm_law_cell_at an_law_cell_at cd_law_cell_at ct_law_cell_at), sl_law_cell_at⟩) (c_law_cell_at : PySem.W.codeIn K cd_law_cell_at "_law_cell_at" = true) (k_law_cell_at : PySem.W.keepIn K (.ref f_law_cell_at) = true)
    (a_law_group : PySem.W.nsIn K mainGlobals "_law_group" = some (some (.ref f_law_group))) (l_law_group : K.lookup f_law_group = some ⟨oc_law_group, od_law_group, .func (PySem.W.fnOf "_law_group" "_law_group" (defArgs (top 23)) (defBody (top 23)) (defScope (top 23)) .none kV_law_group dc_law_group pm_law_group an_law_group cd_law_group ct_law_group), sl_law_group⟩) (c_law_group : PySem.W.codeIn K cd_law_group "_law_group" = true) (k_law_group : PySem.W.keepIn K (.ref f_law_group) = true)
    (a_law_number : PySem.W.nsIn K mainGlobals "_law_number" = some (some (.ref f_law_number))) (l_law_number : K.lookup f_law_number = some ⟨oc_law_number, od_law_number, .func (PySem.W.fnOf "_law_number" "_law_number" (defArgs (top 27)) (defBody (top 27)) (defScope (top 27)) .none kV_law_number dc_law_number pm_law_number an_law_number cd_law_number ct_law_number), sl_law_number⟩) (c_law_number : PySem.W.codeIn K cd_law_number "_law_number" = true) (k_law_number : PySem.W.keepIn K (.ref f_law_number) = true)
    (a_has_hand : PySem.W.nsIn K mainGlobals "has_hand" = some (some (.ref f_has_hand))) (l_has_hand : K.lookup f_has_hand = some ⟨oc_has_hand, od_has_hand, .func (PySem.W.fnOf "has_hand" "has_hand" (defArgs (top 11)) (defBody (top 11)) (defScope (top 11)) .none kV_has_hand dc_has_hand pm_has_hand an_has_hand cd_has_hand ct_has_hand), sl_has_hand⟩) (c_has_hand : PySem.W.codeIn K cd_has_hand "has_hand" = true) (k_has_hand : PySem.W.keepIn K (.ref f_has_hand) = true)
    (a_hands_of : PySem.W.nsIn K mainGlobals "hands_of" = some (some (.ref f_hands_of))) (l_hands_of : K.lookup f_hands_of = some ⟨oc_hands_of, od_hands_of, .func (PySem.W.fnOf "hands_of" "hands_of" (defArgs (top 12)) (defBody (top 12)) (defScope (top 12)) .none kV_hands_of dc_hands_of pm_hands_of an_hands_of cd_hands_of ct_hands_of), sl_hands_of⟩) (c_hands_of : PySem.W.codeIn K cd_hands_of "hands_of" = true) (k_hands_of : PySem.W.keepIn K (.ref f_hands_of) = true)
    (a_names_of : PySem.W.nsIn K mainGlobals "names_of" = some (some (.ref f_names_of))) (l_names_of : K.lookup f_names_of = some ⟨oc_names_of, od_names_of, .func (PySem.W.fnOf "names_of" "names_of" (defArgs (top 14)) (defBody (top 14)) (defScope (top 14)) .none kV_names_of dc_names_of pm_names_of an_names_of cd_names_of ct_names_of), sl_names_of⟩) (c_names_of : PySem.W.codeIn K cd_names_of "names_of" = true) (k_names_of : PySem.W.keepIn K (.ref f_names_of) = true)
    (a_law_kinds : PySem.W.nsIn K mainGlobals "_law_kinds" = some (some (.ref f_law_kinds))) (l_law_kinds : K.lookup f_law_kinds = some ⟨oc_law_kinds, od_law_kinds, .func (PySem.W.fnOf "_law_kinds" "_law_kinds" (defArgs (top 21)) (defBody (top 21)) (defScope (top 21)) .none kV_law_kinds dc_law_kinds pm_law_kinds an_law_kinds cd_law_kinds ct_law_kinds), sl_law_kinds⟩) (c_law_kinds : PySem.W.codeIn K cd_law_kinds "_law_kinds" = true) (k_law_kinds : PySem.W.keepIn K (.ref f_law_kinds) = true)
    (a_law_names_told : PySem.W.nsIn K mainGlobals "_law_names_told" = some (some (.ref f_law_names_told))) (l_law_names_told : K.lookup f_law_names_told = some ⟨oc_law_names_told, od_law_names_told, .func (PySem.W.fnOf "_law_names_told" "_law_names_told" (defArgs (top 26)) (defBody (top 26)) (defScope (top 26)) .none kV_law_names_told dc_law_names_told pm_law_names_told an_law_names_told cd_law_names_told ct_law_names_told), sl_law_names_told⟩) (c_law_names_told : PySem.W.codeIn K cd_law_names_told "_law_names_told" = true) (k_law_names_told : PySem.W.keepIn K (.ref f_law_names_told) = true)
    (a_law_members : PySem.W.nsIn K mainGlobals "_law_members" = some (some (.ref f_law_members))) (l_law_members : K.lookup f_law_members = some ⟨oc_law_members, od_law_members, .func (PySem.W.fnOf "_law_members" "_law_members" (defArgs (top 24)) (defBody (top 24)) (defScope (top 24)) .none kV_law_members dc_law_members pm_law_members an_law_members cd_law_members ct_law_members), sl_law_members⟩) (c_law_members : PySem.W.codeIn K cd_law_members "_law_members" = true) (k_law_members : PySem.W.keepIn K (.ref f_law_members) = true)
    (a_law_same : PySem.W.nsIn K mainGlobals "_law_same" = some (some (.ref f_law_same))) (l_law_same : K.lookup f_law_same = some ⟨oc_law_same, od_law_same, .func (PySem.W.fnOf "_law_same" "_law_same" (defArgs (top 20)) (defBody (top 20)) (defScope (top 20)) .none kV_law_same dc_law_same pm_law_same an_law_same cd_law_same ct_law_same), sl_law_same⟩) (c_law_same : PySem.W.codeIn K cd_law_same "_law_same" = true) (k_law_same : PySem.W.keepIn K (.ref f_law_same) = true)
    (a_law_name : PySem.W.nsIn K mainGlobals "_law_name" = some (some (.ref f_law_name))) (l_law_name : K.lookup f_law_name = some ⟨oc_law_name, od_law_name, .func (PySem.W.fnOf "_law_name" "_law_name" (defArgs (top 18)) (defBody (top 18)) (defScope (top 18)) .none kV_law_name dc_law_name pm_law_name an_law_name cd_law_name ct_law_name), sl_law_name⟩) (c_law_name : PySem.W.codeIn K cd_law_name "_law_name" = true) (k_law_name : PySem.W.keepIn K (.ref f_law_name) = true)
    (a_law_base : PySem.W.nsIn K mainGlobals "_law_base" = some (some (.ref f_law_base))) (l_law_base : K.lookup f_law_base = some ⟨oc_law_base, od_law_base, .func (PySem.W.fnOf "_law_base" "_law_base" (defArgs (top 17)) (defBody (top 17)) (defScope (top 17)) .none kV_law_base dc_law_base pm_law_base an_law_base cd_law_base ct_law_base), sl_law_base⟩) (c_law_base : PySem.W.codeIn K cd_law_base "_law_base" = true) (k_law_base : PySem.W.keepIn K (.ref f_law_base) = true)
    (a_law_names : PySem.W.nsIn K mainGlobals "_law_names" = some (some (.ref f_law_names))) (l_law_names : K.lookup f_law_names = some ⟨oc_law_names, od_law_names, .func (PySem.W.fnOf "_law_names" "_law_names" (defArgs (top 19)) (defBody (top 19)) (defScope (top 19)) .none kV_law_names dc_law_names pm_law_names an_law_names cd_law_names ct_law_names), sl_law_names⟩) (c_law_names : PySem.W.codeIn K cd_law_names "_law_names" = true) (k_law_names : PySem.W.keepIn K (.ref f_law_names) = true)
    (a_law_no_hand : PySem.W.nsIn K mainGlobals "_law_no_hand" = some (some (.ref f_law_no_hand))) (l_law_no_hand : K.lookup f_law_no_hand = some ⟨oc_law_no_hand, od_law_no_hand, .func (PySem.W.fnOf "_law_no_hand" "_law_no_hand" (defArgs (top 22)) (defBody (top 22)) (defScope (top 22)) .none kV_law_no_hand dc_law_no_hand pm_law_no_hand an_law_no_hand cd_law_no_hand ct_law_no_hand), sl_law_no_hand⟩) (c_law_no_hand : PySem.W.codeIn K cd_law_no_hand "_law_no_hand" = true) (k_law_no_hand : PySem.W.keepIn K (.ref f_law_no_hand) = true)
    (a_group_of : PySem.W.nsIn K mainGlobals "group_of" = some (some (.ref f_group_of))) (l_group_of : K.lookup f_group_of = some ⟨oc_group_of, od_group_of, .func (PySem.W.fnOf "group_of" "group_of" (defArgs (top 13)) (defBody (top 13)) (defScope (top 13)) .none kV_group_of dc_group_of pm_group_of an_group_of cd_group_of ct_group_of), sl_group_of⟩) (c_group_of : PySem.W.codeIn K cd_group_of "group_of" = true) (k_group_of : PySem.W.keepIn K (.ref f_group_of) = true)
    (a_law_group_told : PySem.W.nsIn K mainGlobals "_law_group_told" = some (some (.ref f_law_group_told))) (l_law_group_told : K.lookup f_law_group_told = some ⟨oc_law_group_told, od_law_group_told, .func (PySem.W.fnOf "_law_group_told" "_law_group_told" (defArgs (top 25)) (defBody (top 25)) (defScope (top 25)) .none kV_law_group_told dc_law_group_told pm_law_group_told an_law_group_told cd_law_group_told ct_law_group_told), sl_law_group_told⟩) (c_law_group_told : PySem.W.codeIn K cd_law_group_told "_law_group_told" = true) (k_law_group_told : PySem.W.keepIn K (.ref f_law_group_told) = true)
    (a_law : PySem.W.nsIn K mainGlobals "law" = some (some (.ref f_law))) (l_law : K.lookup f_law = some ⟨oc_law, od_law, .func (PySem.W.fnOf "law" "law" (defArgs (top 28)) (defBody (top 28)) (defScope (top 28)) .none kV_law dc_law pm_law an_law cd_law ct_law), sl_law⟩) (c_law : PySem.W.codeIn K cd_law "law" = true) (k_law : PySem.W.keepIn K (.ref f_law) = true)
    (z_ValueError : PySem.W.nsIn K mainGlobals "ValueError" = some none)
    (z_bool : PySem.W.nsIn K mainGlobals "bool" = some none)
    (z_int : PySem.W.nsIn K mainGlobals "int" = some none)
    (z_isinstance : PySem.W.nsIn K mainGlobals "isinstance" = some none)
    (z_len : PySem.W.nsIn K mainGlobals "len" = some none)
    (z_list : PySem.W.nsIn K mainGlobals "list" = some none)
    (z_range : PySem.W.nsIn K mainGlobals "range" = some none)
    (z_str : PySem.W.nsIn K mainGlobals "str" = some none)
    (z_tuple : PySem.W.nsIn K mainGlobals "tuple" = some none)
    : ∃ fd : FuncData, (∀ (s : Shared) (v : Value), BindsTo s fd ⟨[v], []⟩ [("_law_script", v)]) ∧ ∀ base : Heap, K.In base → base.Ns mainGlobals mg → FnOk l.prog w K mg base CX0 5 fa fd ["_law_script"] (spD K kl0 false F_law) := by
  have e := hfa.symm.trans (PySem.W.mg_of X G a_law)
  cases e
  have F1_law_cell_at := fun_mk (st := top 16) l_law_cell_at c_law_cell_at k_law_cell_at
  have d_law_cell_at : Ed K mg "_law_cell_at" (top 16) ["_law_script", "_law_k"] _ _ := ⟨F1_law_cell_at, F1_law_cell_at.binds (ps := ["_law_script", "_law_k"]) fun _ _ _ _ _ _ us hl => match us, hl with | [_, _], _ => rfl, PySem.W.mg_of X G a_law_cell_at⟩
  have F1_law_group := fun_mk (st := top 23) l_law_group c_law_group k_law_group
  have d_law_group : Ed K mg "_law_group" (top 23) ["_law_roll", "_law_names_here"] _ _ := ⟨F1_law_group, F1_law_group.binds (ps := ["_law_roll", "_law_names_here"]) fun _ _ _ _ _ _ us hl => match us, hl with | [_, _], _ => rfl, PySem.W.mg_of X G a_law_group⟩
  have F1_law_number := fun_mk (st := top 27) l_law_number c_law_number k_law_number
  have d_law_number : Ed K mg "_law_number" (top 27) ["_law_cell", "_law_many", "_law_far"] _ _ := ⟨F1_law_number, F1_law_number.binds (ps := ["_law_cell", "_law_many", "_law_far"]) fun _ _ _ _ _ _ us hl => match us, hl with | [_, _, _], _ => rfl, PySem.W.mg_of X G a_law_number⟩
  have F1_has_hand := fun_mk (st := top 11) l_has_hand c_has_hand k_has_hand
  have d_has_hand : Ed K mg "has_hand" (top 11) ["group", "hand"] _ _ := ⟨F1_has_hand, F1_has_hand.binds (ps := ["group", "hand"]) fun _ _ _ _ _ _ us hl => match us, hl with | [_, _], _ => rfl, PySem.W.mg_of X G a_has_hand⟩
  have F1_hands_of := fun_mk (st := top 12) l_hands_of c_hands_of k_hands_of
  have d_hands_of : Ed K mg "hands_of" (top 12) ["group"] _ _ := ⟨F1_hands_of, F1_hands_of.binds (ps := ["group"]) fun _ _ _ _ _ _ us hl => match us, hl with | [_], _ => rfl, PySem.W.mg_of X G a_hands_of⟩
  have F1_names_of := fun_mk (st := top 14) l_names_of c_names_of k_names_of
  have d_names_of : Ed K mg "names_of" (top 14) ["roll", "group"] _ _ := ⟨F1_names_of, F1_names_of.binds (ps := ["roll", "group"]) fun _ _ _ _ _ _ us hl => match us, hl with | [_, _], _ => rfl, PySem.W.mg_of X G a_names_of⟩
  have F1_law_kinds := fun_mk (st := top 21) l_law_kinds c_law_kinds k_law_kinds
  have d_law_kinds : Ed K mg "_law_kinds" (top 21) ["_law_e"] _ _ := ⟨F1_law_kinds, F1_law_kinds.binds (ps := ["_law_e"]) fun _ _ _ _ _ _ us hl => match us, hl with | [_], _ => rfl, PySem.W.mg_of X G a_law_kinds⟩
  have F1_law_names_told := fun_mk (st := top 26) l_law_names_told c_law_names_told k_law_names_told
  have d_law_names_told : Ed K mg "_law_names_told" (top 26) ["_law_roll", "_law_group_here"] _ _ := ⟨F1_law_names_told, F1_law_names_told.binds (ps := ["_law_roll", "_law_group_here"]) fun _ _ _ _ _ _ us hl => match us, hl with | [_, _], _ => rfl, PySem.W.mg_of X G a_law_names_told⟩
  have F1_law_members := fun_mk (st := top 24) l_law_members c_law_members k_law_members
  have d_law_members : Ed K mg "_law_members" (top 24) ["_law_roll", "_law_group_here"] _ _ := ⟨F1_law_members, F1_law_members.binds (ps := ["_law_roll", "_law_group_here"]) fun _ _ _ _ _ _ us hl => match us, hl with | [_, _], _ => rfl, PySem.W.mg_of X G a_law_members⟩
  have F1_law_same := fun_mk (st := top 20) l_law_same c_law_same k_law_same
  have d_law_same : Ed K mg "_law_same" (top 20) ["_law_found", "_law_due"] _ _ := ⟨F1_law_same, F1_law_same.binds (ps := ["_law_found", "_law_due"]) fun _ _ _ _ _ _ us hl => match us, hl with | [_, _], _ => rfl, PySem.W.mg_of X G a_law_same⟩
  have F1_law_name := fun_mk (st := top 18) l_law_name c_law_name k_law_name
  have d_law_name : Ed K mg "_law_name" (top 18) ["_law_base_here", "_law_place", "_law_size", "_law_k"] _ _ := ⟨F1_law_name, F1_law_name.binds (ps := ["_law_base_here", "_law_place", "_law_size", "_law_k"]) fun _ _ _ _ _ _ us hl => match us, hl with | [_, _, _, _], _ => rfl, PySem.W.mg_of X G a_law_name⟩
  have F1_law_base := fun_mk (st := top 17) l_law_base c_law_base k_law_base
  have d_law_base : Ed K mg "_law_base" (top 17) ["_law_cell", "_law_size"] _ _ := ⟨F1_law_base, F1_law_base.binds (ps := ["_law_cell", "_law_size"]) fun _ _ _ _ _ _ us hl => match us, hl with | [_, _], _ => rfl, PySem.W.mg_of X G a_law_base⟩
  have F1_law_names := fun_mk (st := top 19) l_law_names c_law_names k_law_names
  have d_law_names : Ed K mg "_law_names" (top 19) ["_law_script", "_law_at", "_law_many"] _ _ := ⟨F1_law_names, F1_law_names.binds (ps := ["_law_script", "_law_at", "_law_many"]) fun _ _ _ _ _ _ us hl => match us, hl with | [_, _, _], _ => rfl, PySem.W.mg_of X G a_law_names⟩
  have F1_law_no_hand := fun_mk (st := top 22) l_law_no_hand c_law_no_hand k_law_no_hand
  have d_law_no_hand : Ed K mg "_law_no_hand" (top 22) ["_law_roll", "_law_name_here", "_law_cell"] _ _ := ⟨F1_law_no_hand, F1_law_no_hand.binds (ps := ["_law_roll", "_law_name_here", "_law_cell"]) fun _ _ _ _ _ _ us hl => match us, hl with | [_, _, _], _ => rfl, PySem.W.mg_of X G a_law_no_hand⟩
  have F1_group_of := fun_mk (st := top 13) l_group_of c_group_of k_group_of
  have d_group_of : Ed K mg "group_of" (top 13) ["roll", "names"] _ _ := ⟨F1_group_of, F1_group_of.binds (ps := ["roll", "names"]) fun _ _ _ _ _ _ us hl => match us, hl with | [_, _], _ => rfl, PySem.W.mg_of X G a_group_of⟩
  have F1_law_group_told := fun_mk (st := top 25) l_law_group_told c_law_group_told k_law_group_told
  have d_law_group_told : Ed K mg "_law_group_told" (top 25) ["_law_roll", "_law_names_here"] _ _ := ⟨F1_law_group_told, F1_law_group_told.binds (ps := ["_law_roll", "_law_names_here"]) fun _ _ _ _ _ _ us hl => match us, hl with | [_, _], _ => rfl, PySem.W.mg_of X G a_law_group_told⟩
  have F1_law := fun_mk (st := top 28) l_law c_law k_law
  have d_law : Ed K mg "law" (top 28) ["_law_script"] _ _ := ⟨F1_law, F1_law.binds (ps := ["_law_script"]) fun _ _ _ _ _ _ us hl => match us, hl with | [_], _ => rfl, PySem.W.mg_of X G a_law⟩
  have B : Bl K mg := ⟨PySem.W.mg_none_of X G z_ValueError, PySem.W.mg_none_of X G z_bool, PySem.W.mg_none_of X G z_int, PySem.W.mg_none_of X G z_isinstance, PySem.W.mg_none_of X G z_len, PySem.W.mg_none_of X G z_list, PySem.W.mg_none_of X G z_range, PySem.W.mg_none_of X G z_str, PySem.W.mg_none_of X G z_tuple⟩
  have Z : Zx K mg c_SignError c_NoRoll c_NoHand c_NoGroup c_NoRule c_NoDay c_NoDeputy c_NoEntry c_Unruled := ⟨PySem.W.mg_of X G a_SignError, PySem.W.mg_of X G a_NoRoll, PySem.W.mg_of X G a_NoHand, PySem.W.mg_of X G a_NoGroup, PySem.W.mg_of X G a_NoRule, PySem.W.mg_of X G a_NoDay, PySem.W.mg_of X G a_NoDeputy, PySem.W.mg_of X G a_NoEntry, PySem.W.mg_of X G a_Unruled, .of ex_NoGroup, ⟨xg_NoGroup, xh_NoGroup, xc_NoGroup, in_, it_, xm_NoGroup, xb_NoGroup, by rw [xs_NoGroup]; rfl⟩, ⟨bt_, by rw [bs_]; rfl, bb_, b4_NoGroup⟩, ik_NoGroup_NoRoll, ik_NoGroup_NoHand, ik_NoGroup_NoGroup, ik_NoGroup_NoRule, ik_NoGroup_NoDay, ik_NoGroup_NoDeputy, ik_NoGroup_NoEntry, ik_NoGroup_Unruled, ik_NoGroup_ValueError, .of ex_NoHand, ⟨xg_NoHand, xh_NoHand, xc_NoHand, in_, it_, xm_NoHand, xb_NoHand, by rw [xs_NoHand]; rfl⟩, ⟨bt_, by rw [bs_]; rfl, bb_, b4_NoHand⟩, ik_NoHand_NoRoll, ik_NoHand_NoHand, ik_NoHand_NoGroup, ik_NoHand_NoRule, ik_NoHand_NoDay, ik_NoHand_NoDeputy, ik_NoHand_NoEntry, ik_NoHand_Unruled, ik_NoHand_ValueError⟩
  refine ⟨PySem.W.fnOf "law" "law" (defArgs (top 28)) (defBody (top 28)) (defScope (top 28)) .none kV_law dc_law pm_law an_law cd_law ct_law, fun s v => .of_eq rfl, fun base _ _ => ?_⟩
  have G_law_cell_at := ok_law_cell_at (P := l.prog) (w := w) (base := base) (κ := kl0) B d_law_cell_at
  have G_law_group := ok_law_group (P := l.prog) (w := w) (base := base) (κ := kl0) B d_law_group
  have G_law_number := ok_law_number (P := l.prog) (w := w) (base := base) (κ := kl0) B d_law_number
  have G_has_hand := ok_has_hand (P := l.prog) (w := w) (base := base) (κ := kl0) B d_has_hand
  have G_hands_of := ok_hands_of (P := l.prog) (w := w) (base := base) (κ := kl0) B d_hands_of d_has_hand G_has_hand
  have G_names_of := ok_names_of (P := l.prog) (w := w) (base := base) (κ := kl0) B d_names_of Z d_hands_of G_hands_of
  have G_law_kinds := ok_law_kinds (P := l.prog) (w := w) (base := base) B d_law_kinds Z
  have G_law_names_told := ok_law_names_told (P := l.prog) (w := w) (base := base) (κ := kl0) B d_law_names_told Z d_names_of G_names_of d_law_kinds G_law_kinds
  have G_law_members := ok_law_members (P := l.prog) (w := w) (base := base) (κ := kl0) B d_law_members
  have G_law_same := ok_law_same (P := l.prog) (w := w) (base := base) (κ := kl0) B d_law_same
  have G_law_name := ok_law_name (P := l.prog) (w := w) (base := base) (κ := kl0) B d_law_name
  have G_law_base := ok_law_base (P := l.prog) (w := w) (base := base) (κ := kl0) B d_law_base
  have G_law_names := ok_law_names (P := l.prog) (w := w) (base := base) (κ := kl0) B d_law_names d_law_cell_at G_law_cell_at d_law_name G_law_name d_law_base G_law_base
  have G_law_no_hand := ok_law_no_hand (P := l.prog) (w := w) (base := base) (κ := kl0) B d_law_no_hand
  have G_group_of := ok_group_of (P := l.prog) (w := w) (base := base) (κ := kl0) B d_group_of Z
  have G_law_group_told := ok_law_group_told (P := l.prog) (w := w) (base := base) (κ := kl0) B d_law_group_told Z d_law_kinds G_law_kinds d_group_of G_group_of
  have G_law := ok_law (P := l.prog) (w := w) (base := base) (κ := kl0) B d_law d_law_cell_at G_law_cell_at d_law_group G_law_group d_law_number G_law_number d_law_names_told G_law_names_told d_law_members G_law_members d_law_same G_law_same d_law_names G_law_names d_law_no_hand G_law_no_hand d_law_group_told G_law_group_told
  exact G_law
end
end L2.D.My
set_option Elab.async false
set_option linter.all false
set_option maxRecDepth 100000
set_option maxHeartbeats 2000000
namespace L2.D.My
open PySem
def OkN (x : Str) : Prop := Lw x ∧ 1 ≤ x.length ∧ x.length ≤ 50
theorem forL_nx {i : Nat} {body : DenS} {x : PV} {xs : List PV} {ρ ρ' : Sto} (h : body (ρ.set i (.sh x)) = some (.nx ρ')) : forL (gtName i) body (x :: xs) ρ = forL (gtName i) body xs ρ' := by
  rw [forL_eq]
  show (body (ρ.set i (.sh x))).bind _ = _
  rw [h]
  rfl
theorem cut_whole (x : Str) (n : Nat) (h : x.length ≤ n) : (cutS x none (some (n : Int)) 1).length = x.length := by
  have e : Builtin.Str.strSliceIndices none (some (n : Int)) 1 x.length = (List.range x.length).map (0 + ·) := by
    have := PySem.sliceRange_one 0 x.length
    rw [Nat.sub_zero] at this
    rw [← this]
    unfold Builtin.Str.strSliceIndices
    simp only
    congr 1
    rw [if_pos (by decide), if_neg (by omega)]
    omega
  unfold cutS
  rw [e]
  rw [if_pos (by rw [List.length_map, List.length_range]; simp)]
theorem base_step (s0 s1 : Slot) {m : Int} (h0 : 0 ≤ m) (h1 : m < 2147483647) {x : Str} (hx : x.length ≤ 100) (k : Nat) : ∃ m' x', 0 ≤ m' ∧ m' < 2147483647 ∧ x'.length = x.length + 1 ∧ (Lw x → Lw x') ∧ b_law_base_1 [s0, s1, .sh (.int m), .sh (.str x), .sh (.int k)] = some (.nx [s0, s1, .sh (.int m'), .sh (.str x'), .sh (.int k)]) := by
  have e1 : dBin gMod (dBin gAdd (dBin gAdd (dBin gAdd (dBin gMul (dV 2) (dV 2)) (dBin gMul (dC (.int 48271)) (dV 2))) (dV 4)) (dC (.int 1))) (dC (.int 2147483647)) [s0, s1, .sh (.int m), .sh (.str x), .sh (.int k)] = some (.int ((m * m + 48271 * m + k + 1) % 2147483647)) := by
    refine (dBin_eq (x := .int (m * m + 48271 * m + k + 1)) (y := .int 2147483647) ?_ rfl).trans (gMod_pos _ (by decide))
    refine (dBin_eq (x := .int (m * m + 48271 * m + k)) (y := .int 1) ?_ rfl).trans rfl
    refine (dBin_eq (x := .int (m * m + 48271 * m)) (y := .int k) ?_ rfl).trans rfl
    refine (dBin_eq ((dBin_eq (x := .int m) (y := .int m) rfl rfl).trans (mul_small (by omega) (by omega))) ((dBin_eq (x := .int 48271) (y := .int m) rfl rfl).trans (mul_small (by omega) (by omega)))).trans rfl
  have b1 := Int.emod_nonneg (m * m + 48271 * m + k + 1) (show (2147483647 : Int) ≠ 0 by decide)
  have b2 := Int.emod_lt_of_pos (m * m + 48271 * m + k + 1) (show (0 : Int) < 2147483647 by decide)
  generalize (m * m + 48271 * m + k + 1) % 2147483647 = m' at e1 b1 b2
  have b3 := mod_lt m' (n := 26) (by decide)
  have ey := alph_lett b3
  refine ⟨m', x ++ lett ((m' % ((26 : Nat) : Int)).toNat), b1, b2, by rw [app_len]; rfl, fun h => lw_app h (lett_lw b3), (sSeq_nx (sSet_eq e1)).trans (sSet_eq ?_)⟩
  refine (dBin_eq (x := .str x) (y := .str (lett ((m' % ((26 : Nat) : Int)).toNat))) rfl ?_).trans (gAdd_str _ _ (by show x.length + 1 ≤ _; omega))
  exact (dBin_eq (x := .str alph) rfl ((dBin_eq (x := .int m') (y := .int ((26 : Nat) : Int)) rfl rfl).trans (gMod_nat _ (by decide)))).trans ey
theorem base_for (s0 s1 : Slot) : ∀ (ks : List Nat) (m : Int) (x : Str) (s4 : Slot), 0 ≤ m → m < 2147483647 → x.length + ks.length ≤ 100 →
    ∃ m' x' t4, x'.length = x.length + ks.length ∧ (Lw x → Lw x') ∧ forL (gtName 4) b_law_base_1 (pl ks) [s0, s1, .sh (.int m), .sh (.str x), s4] = some (.nx [s0, s1, .sh (.int m'), .sh (.str x'), t4])
  | [], m, x, s4, _, _, _ => ⟨m, x, s4, rfl, id, rfl⟩
  | k :: ks, m, x, s4, h0, h1, h2 => by
    rw [List.length_cons] at h2
    obtain ⟨m1, x1, a1, a2, a3, a5, a4⟩ := base_step s0 s1 h0 h1 (x := x) (by omega) k
    obtain ⟨m2, x2, t4, b1, b3, b2⟩ := base_for s0 s1 ks m1 x1 (.sh (.int k)) a1 a2 (by omega)
    refine ⟨m2, x2, t4, by rw [b1, a3, List.length_cons]; omega, fun h => b3 (a5 h), Eq.trans ?_ b2⟩
    exact forL_nx (i := 4) (x := .int k) (xs := pl ks) (ρ := [s0, s1, .sh (.int m), .sh (.str x), s4]) a4
theorem base_eq (c : Int) : ∃ x : Str, x.length = 20 ∧ Lw x ∧ F_law_base [.int c, .int 20] = some (.str x) := by
  have b1 := Int.emod_nonneg c (show (2147483647 : Int) ≠ 0 by decide)
  have b2 := Int.emod_lt_of_pos c (show (0 : Int) < 2147483647 by decide)
  have e1 : dBin gMod (dBin gAdd (dBin gMul (dBin gMod (dV 0) (dC (.int 2147483647))) (dC (.int 16807))) (dC (.int 11))) (dC (.int 2147483647)) [.sh (.int c), .sh (.int 20), .un, .un, .un] = some (.int ((c % 2147483647 * 16807 + 11) % 2147483647)) := by
    refine (dBin_eq (x := .int (c % 2147483647 * 16807 + 11)) (y := .int 2147483647) ?_ rfl).trans (gMod_pos _ (by decide))
    refine (dBin_eq (x := .int (c % 2147483647 * 16807)) (y := .int 11) ?_ rfl).trans rfl
    exact (dBin_eq (x := .int (c % 2147483647)) (y := .int 16807) ((dBin_eq (x := .int c) (y := .int 2147483647) rfl rfl).trans (gMod_pos _ (by decide))) rfl).trans (mul_small (by omega) (by omega))
  have b3 := Int.emod_nonneg (c % 2147483647 * 16807 + 11) (show (2147483647 : Int) ≠ 0 by decide)
  have b4 := Int.emod_lt_of_pos (c % 2147483647 * 16807 + 11) (show (0 : Int) < 2147483647 by decide)
  generalize (c % 2147483647 * 16807 + 11) % 2147483647 = m at e1 b3 b4
  obtain ⟨m', x', t4, h1, h3, h2⟩ := base_for (.sh (.int c)) (.sh (.int 20)) (List.range 20) m "" .un b3 b4 (by decide)
  refine ⟨x', by rw [h1]; decide, h3 (lw_of (by decide +kernel)), fn_rt rfl ?_⟩
  refine (sSeq_nx (sSet_eq e1)).trans ((sSeq_nx (sSet_eq (p := .str "") rfl)).trans ?_)
  exact (sSeq_nx ((sFor_eq (nRng_nat (n := 20) rfl (by decide))).trans h2)).trans rfl
theorem name_eq {b : Str} {place size : Nat} (h1 : place < b.length) (h2 : b.length ≤ 100) : ∃ F : Int, ∀ k : Nat, k ≤ 1000 → F_law_name [.str b, .int place, .int size, .int k] = some (.str ((cutS b none (some (place : Int)) 1 ++ lett ((F + 3 * (k : Int)) % ((26 : Nat) : Int)).toNat) ++ cutS b (some ((place + 1 : Nat) : Int)) (some (size : Int)) 1)) := by
  obtain ⟨c, hc, ec⟩ := str_ix (x := b) (i := place) h1 (by omega)
  refine ⟨Txt.find alph c, fun k h3 => ?_⟩
  have b3 := mod_lt (Txt.find alph c + 3 * (k : Int)) (n := 26) (by decide)
  have ey := alph_lett b3
  have c1 := cut_le b none (some (place : Int)) (st := 1) (by decide)
  have c2 := cut_le b (some ((place + 1 : Nat) : Int)) (some (size : Int)) (st := 1) (by decide)
  refine fn_rt rfl ?_
  refine (sSeq_nx (sSet_eq (p := .str alph) rfl)).trans ((sSeq_nx (sSet_eq (p := .str (lett ((Txt.find alph c + 3 * (k : Int)) % ((26 : Nat) : Int)).toNat)) ?_)).trans (sRet_eq ?_))
  · refine (dBin_eq (x := .str alph) rfl ((dBin_eq (x := .int (Txt.find alph c + 3 * (k : Int))) (y := .int ((26 : Nat) : Int)) ?_ rfl).trans (gMod_nat _ (by decide)))).trans ey
    refine (dBin_eq (x := .int (Txt.find alph c)) (y := .int (3 * (k : Int))) ?_ ((dBin_eq (x := .int 3) (y := .int k) rfl rfl).trans (mul_small (by decide) (by decide)))).trans rfl
    exact (dBin_eq (x := .str alph) rfl ((dBin_eq (x := .str b) (y := .int place) rfl rfl).trans ec)).trans rfl
  · have hj : ∀ j, (lett j).length = 1 := fun _ => rfl
    have hj := hj ((Txt.find alph c + 3 * (k : Int)) % ((26 : Nat) : Int)).toNat
    refine (dBin_eq ((dBin_eq (y := .str (lett ((Txt.find alph c + 3 * (k : Int)) % ((26 : Nat) : Int)).toNat)) (dSlA_str (y := b) rfl rfl rfl (by omega)) rfl).trans (gAdd_str _ _ (by omega))) (dSlA_str (y := b) (l := some ((place + 1 : Nat) : Int)) rfl rfl rfl (by omega))).trans (gAdd_str _ _ (by rw [app_len]; omega))
def wordsL : List PV := [.str "", .str "", .str "all", .str "", .str "any", .str "", .str "of", .str "al"]
theorem words_chk : ((List.range 8).all fun i => match itemAt wordsL (i : Int) with | some (.str w) => decide (w.length ≤ 3) && lwB w | _ => false) = true := by decide +kernel
theorem words_ix {i : Nat} (h : i < 8) : ∃ w : Str, w.length ≤ 3 ∧ Lw w ∧ gIx (.lst wordsL) (.int i) = some (.str w) := by
  have := List.all_eq_true.mp words_chk i (List.mem_range.mpr h)
  show ∃ w : Str, w.length ≤ 3 ∧ Lw w ∧ itemAt wordsL (i : Int) = some (.str w)
  split at this
  · rename_i w e
    rw [Bool.and_eq_true] at this
    exact ⟨w, of_decide_eq_true this.1, lw_of this.2, e⟩
  · cases this
def y2 (cell : Int) (b : Str) (place size : Nat) (F : Int) (k : Nat) : Str := if decide (cell / 20 % 4 = 1) = true then cutS b none (some ((k + 1 : Nat) : Int)) 1 else (cutS b none (some (place : Int)) 1 ++ lett ((F + 3 * (k : Int)) % ((26 : Nat) : Int)).toNat) ++ cutS b (some ((place + 1 : Nat) : Int)) (some (size : Int)) 1
theorem y2_ok {cell : Int} {b : Str} {place size : Nat} {F : Int} (hb : b.length = 20) (ab : Lw b) (k : Nat) : OkN (y2 cell b place size F k) := by
  have c1 := cut_le b none (some (place : Int)) (st := 1) (by decide)
  have c2 := cut_le b (some ((place + 1 : Nat) : Int)) (some (size : Int)) (st := 1) (by decide)
  have c3 := cut_le b none (some ((k + 1 : Nat) : Int)) (st := 1) (by decide)
  unfold y2
  split
  · refine ⟨lw_cut ab _ _ _, ?_, by omega⟩
    by_cases hk2 : k + 1 ≤ b.length
    · rw [cut_to b (k + 1) hk2]; omega
    · rw [cut_whole b (k + 1) (by omega)]; omega
  · have hj : (lett ((F + 3 * (k : Int)) % ((26 : Nat) : Int)).toNat).length = 1 := rfl
    exact ⟨lw_app (lw_app (lw_cut ab _ _ _) (lett_lw (mod_lt _ (by decide)))) (lw_cut ab _ _ _), by rw [app_len, app_len, hj]; omega, by rw [app_len, app_len, hj]; omega⟩
theorem y2_ne {cell : Int} {b : Str} {place size : Nat} {F : Int} (hb : b.length = 20) {j k : Nat} (hj : j < 6) (hk : k < 6) (h : j ≠ k) : fin (y2 cell b place size F j) ≠ fin (y2 cell b place size F k) := by
  unfold y2
  cases decide (cell / 20 % 4 = 1) with
  | true =>
    rw [if_pos rfl, if_pos rfl]
    intro e
    have := congrArg Str.length e
    rw [fin_len, fin_len, cut_to b (j + 1) (by omega), cut_to b (k + 1) (by omega)] at this
    omega
  | false =>
    rw [if_neg Bool.noConfusion, if_neg Bool.noConfusion]
    exact fin_ne (hdl_one _ _ (by omega))
section
variable {F_law_cell_at F_law_name F_law_base : List PV → Option PV} (hC : ∀ (ns : List Int) (k : Nat), F_law_cell_at [scr ns, .int k] = some (.int (ns.getD k 0)))
  (hB : ∀ c : Int, ∃ x : Str, x.length = 20 ∧ Lw x ∧ F_law_base [.int c, .int 20] = some (.str x))
theorem names_step (s0 s1 s2 s5 s6 : Slot) (cell : Int) {s : Nat} (hs0 : 0 < s) {b : Str} (hb : b.length = 20) (ab : Lw b) {F : Int} (acc : List Str) (hacc : acc.length ≤ 1000) (k : Nat) (s10 : Slot)
    (e1 : F_law_name [.str b, .int ((cell / 80 % (s : Int)).toNat : Nat), .int s, .int k] = some (.str ((cutS b none (some ((cell / 80 % (s : Int)).toNat : Int)) 1 ++ lett ((F + 3 * (k : Int)) % ((26 : Nat) : Int)).toNat) ++ cutS b (some (((cell / 80 % (s : Int)).toNat + 1 : Nat) : Int)) (some (s : Int)) 1))) :
    b_law_names_1 F_law_cell_at F_law_name F_law_base [s0, s1, s2, .sh (.int cell), .sh (.int s), s5, s6, .sh (.str b), .ow (acc.map PV.str), .sh (.int k), s10] = some (.nx [s0, s1, s2, .sh (.int cell), .sh (.int s), s5, s6, .sh (.str b), .ow ((acc ++ [fin (y2 cell b (cell / 80 % (s : Int)).toNat s F k)]).map PV.str), .sh (.int k), .sh (.str (fin (y2 cell b (cell / 80 % (s : Int)).toNat s F k)))]) := by
  have zl : (5000 : Nat) ≤ sizeLine := by decide
  obtain ⟨_, _, l2⟩ := y2_ok (cell := cell) (place := (cell / 80 % (s : Int)).toNat) (size := s) (F := F) hb ab k
  have st2 : (sIf (tV (dBin gEq (dBin gMod (dBin gDiv (dV 3) (dC (.int 20))) (dC (.int 4))) (dC (.int 1)))) (sSet 10 (dSlA (dV 7) oNone (oSome (dBin gAdd (dV 9) (dC (.int 1)))))) sNext) [s0, s1, s2, .sh (.int cell), .sh (.int s), s5, s6, .sh (.str b), .ow (acc.map PV.str), .sh (.int k), .sh (.str ((cutS b none (some ((cell / 80 % (s : Int)).toNat : Int)) 1 ++ lett ((F + 3 * (k : Int)) % ((26 : Nat) : Int)).toNat) ++ cutS b (some (((cell / 80 % (s : Int)).toNat + 1 : Nat) : Int)) (some (s : Int)) 1))] = some (.nx [s0, s1, s2, .sh (.int cell), .sh (.int s), s5, s6, .sh (.str b), .ow (acc.map PV.str), .sh (.int k), .sh (.str (y2 cell b (cell / 80 % (s : Int)).toNat s F k))]) := by
    unfold y2
    generalize ((cutS b none (some ((cell / 80 % (s : Int)).toNat : Int)) 1 ++ lett ((F + 3 * (k : Int)) % ((26 : Nat) : Int)).toNat) ++ cutS b (some (((cell / 80 % (s : Int)).toNat + 1 : Nat) : Int)) (some (s : Int)) 1) = y1
    have t : tV (dBin gEq (dBin gMod (dBin gDiv (dV 3) (dC (.int 20))) (dC (.int 4))) (dC (.int 1))) [s0, s1, s2, .sh (.int cell), .sh (.int s), s5, s6, .sh (.str b), .ow (acc.map PV.str), .sh (.int k), .sh (.str y1)] = some (decide (cell / 20 % 4 = 1)) := tV_eq rfl
    cases hd : decide (cell / 20 % 4 = 1)
    · rw [hd] at t
      exact (sIf_f t).trans rfl
    · rw [hd] at t
      refine (sIf_t t).trans (sSet_eq ?_)
      exact dSlA_str (y := b) (h := some ((k + 1 : Nat) : Int)) rfl rfl rfl (by omega)
  generalize y2 cell b (cell / 80 % (s : Int)).toNat s F k = y at st2 l2
  have st3 : (sIf (tV (dBin gIn (dV 10) (dTup (dCons (dC (.str "all")) (dCons (dC (.str "any")) (dCons (dC (.str "of")) dNil)))))) (sSet 10 (dUn gRev (dV 10))) sNext) [s0, s1, s2, .sh (.int cell), .sh (.int s), s5, s6, .sh (.str b), .ow (acc.map PV.str), .sh (.int k), .sh (.str y)] = some (.nx [s0, s1, s2, .sh (.int cell), .sh (.int s), s5, s6, .sh (.str b), .ow (acc.map PV.str), .sh (.int k), .sh (.str (fin y))]) := by
    have tt : dTup (dCons (dC (.str "all")) (dCons (dC (.str "any")) (dCons (dC (.str "of")) dNil))) [s0, s1, s2, .sh (.int cell), .sh (.int s), s5, s6, .sh (.str b), .ow (acc.map PV.str), .sh (.int k), .sh (.str y)] = some (.tup kept) := by
      show (if (3 : Nat) ≤ sizeLine then some (PV.tup kept) else none) = _
      rw [if_pos (by omega)]
    have t : tV (dBin gIn (dV 10) (dTup (dCons (dC (.str "all")) (dCons (dC (.str "any")) (dCons (dC (.str "of")) dNil))))) [s0, s1, s2, .sh (.int cell), .sh (.int s), s5, s6, .sh (.str b), .ow (acc.map PV.str), .sh (.int k), .sh (.str y)] = some (inP (.str y) kept) := tV_eq ((dBin_eq (x := .str y) rfl tt).trans rfl)
    unfold fin
    cases hd : inP (.str y) kept
    · rw [hd] at t
      exact (sIf_f t).trans rfl
    · rw [hd] at t
      refine (sIf_t t).trans (sSet_eq ?_)
      show (if y.length ≤ sizeLine then some (PV.str (cutS y none none (-1))) else none) = _
      rw [if_pos (by omega)]
      rfl
  refine (sSeq_nx (sSet_eq ((dCall_eq (dCons_eq (x := .str b) rfl (dCons_eq ((dBin_eq (x := .int (cell / 80)) (y := .int s) rfl rfl).trans (gMod_nat _ hs0)) (dCons_eq (x := .int s) rfl (dCons_eq (x := .int k) rfl rfl))))).trans e1))).trans ?_
  refine (sSeq_nx st2).trans ((sSeq_nx st3).trans ?_)
  show ((if (acc.map PV.str).length < sizeLine then some (acc.map PV.str ++ [PV.str (fin y)]) else none).map fun l' => Fl.nx [s0, s1, s2, .sh (.int cell), .sh (.int s), s5, s6, .sh (.str b), .ow l', .sh (.int k), .sh (.str (fin y))]) = _
  rw [if_pos (by rw [List.length_map]; omega), List.map_append]
  rfl
theorem names_for (s0 s1 s2 s5 s6 : Slot) (cell : Int) {s : Nat} (hs0 : 0 < s) {b : Str} (hb : b.length = 20) (ab : Lw b) {F : Int}
    (e1 : ∀ k : Nat, k ≤ 1000 → F_law_name [.str b, .int ((cell / 80 % (s : Int)).toNat : Nat), .int s, .int k] = some (.str ((cutS b none (some ((cell / 80 % (s : Int)).toNat : Int)) 1 ++ lett ((F + 3 * (k : Int)) % ((26 : Nat) : Int)).toNat) ++ cutS b (some (((cell / 80 % (s : Int)).toNat + 1 : Nat) : Int)) (some (s : Int)) 1))) :
    ∀ (ks : List Nat) (acc : List Str) (s9 s10 : Slot), (∀ k ∈ ks, k ≤ 1000) → acc.length + ks.length ≤ 1000 →
    ∃ (t9 t10 : Slot), forL (gtName 9) (b_law_names_1 F_law_cell_at F_law_name F_law_base) (pl ks) [s0, s1, s2, .sh (.int cell), .sh (.int s), s5, s6, .sh (.str b), .ow (acc.map PV.str), s9, s10] = some (.nx [s0, s1, s2, .sh (.int cell), .sh (.int s), s5, s6, .sh (.str b), .ow ((acc ++ ks.map fun k => fin (y2 cell b (cell / 80 % (s : Int)).toNat s F k)).map PV.str), t9, t10])
  | [], acc, s9, s10, _, _ => ⟨s9, s10, by rw [List.map_nil, List.append_nil]; rfl⟩
  | k :: ks, acc, s9, s10, h1, h2 => by
    rw [List.length_cons] at h2
    have e := names_step (F_law_cell_at := F_law_cell_at) (F_law_base := F_law_base) s0 s1 s2 s5 s6 cell hs0 hb ab acc (by omega) k s10 (e1 k (h1 k (List.mem_cons_self ..)))
    obtain ⟨t9, t10, q3⟩ := names_for s0 s1 s2 s5 s6 cell hs0 hb ab e1 ks (acc ++ [fin (y2 cell b (cell / 80 % (s : Int)).toNat s F k)]) (.sh (.int k)) (.sh (.str (fin (y2 cell b (cell / 80 % (s : Int)).toNat s F k)))) (fun x hx => h1 x (List.mem_cons_of_mem _ hx)) (by rw [List.length_append, List.length_singleton]; omega)
    rw [List.append_assoc, List.singleton_append] at q3
    refine ⟨t9, t10, Eq.trans ?_ q3⟩
    exact forL_nx (i := 9) (x := .int k) (xs := pl ks) (ρ := [s0, s1, s2, .sh (.int cell), .sh (.int s), s5, s6, .sh (.str b), .ow (acc.map PV.str), s9, s10]) e
include hC hB in
theorem names_gen (hN : ∀ {b : Str} {place size : Nat}, place < b.length → b.length ≤ 100 → ∃ F : Int, ∀ k : Nat, k ≤ 1000 → F_law_name [.str b, .int place, .int size, .int k] = some (.str ((cutS b none (some (place : Int)) 1 ++ lett ((F + 3 * (k : Int)) % ((26 : Nat) : Int)).toNat) ++ cutS b (some ((place + 1 : Nat) : Int)) (some (size : Int)) 1)))
    (ns : List Int) (a many : Nat) (hm : many ≤ 6) : ∃ f : Nat → Str, (∀ k, OkN (f k)) ∧ (∀ j k, j < 6 → k < 6 → j ≠ k → f j ≠ f k) ∧ fn true 11 3 (g_law_names F_law_cell_at F_law_name F_law_base) [scr ns, .int a, .int many] = some (.lst (((List.range many).map f).map PV.str)) := by
  have zl : (5000 : Nat) ≤ sizeLine := by decide
  have hs := mod_lt (ns.getD a 0) (n := 20) (by decide)
  have hw := mod_lt (ns.getD (a + 1) 0) (n := 8) (by decide)
  obtain ⟨w, lw, aw, ew⟩ := words_ix hw
  obtain ⟨x, lx, ax, ex⟩ := hB (ns.getD (a + 1) 0 / 8)
  have lb : (cutS (w ++ x) none (some ((20 : Nat) : Int)) 1).length = 20 := cut_to (w ++ x) 20 (by rw [app_len]; omega)
  have ab : Lw (cutS (w ++ x) none (some ((20 : Nat) : Int)) 1) := lw_cut (lw_app aw ax) _ _ _
  generalize eb : cutS (w ++ x) none (some ((20 : Nat) : Int)) 1 = b at lb ab
  have hp := mod_lt (ns.getD a 0 / 80) (n := 1 + (ns.getD a 0 % ((20 : Nat) : Int)).toNat) (by omega)
  obtain ⟨F, hF⟩ := hN (b := b) (place := (ns.getD a 0 / 80 % ((1 + (ns.getD a 0 % ((20 : Nat) : Int)).toNat : Nat) : Int)).toNat) (size := 1 + (ns.getD a 0 % ((20 : Nat) : Int)).toNat) (by omega) (by omega)
  obtain ⟨t9, t10, q3⟩ := names_for (F_law_cell_at := F_law_cell_at) (F_law_base := F_law_base) (.sh (scr ns)) (.sh (.int a)) (.sh (.int many)) (.sh (.int (ns.getD (a + 1) 0))) (.sh (.str w)) (ns.getD a 0) (s := 1 + (ns.getD a 0 % ((20 : Nat) : Int)).toNat) (by omega) lb ab hF (List.range many) [] .un .un (fun k hk => by have := List.mem_range.mp hk; omega) (by rw [List.length_range]; simp; omega)
  rw [List.nil_append] at q3
  refine ⟨fun k => fin (y2 (ns.getD a 0) b (ns.getD a 0 / 80 % ((1 + (ns.getD a 0 % ((20 : Nat) : Int)).toNat : Nat) : Int)).toNat (1 + (ns.getD a 0 % ((20 : Nat) : Int)).toNat) F k), fun k => ?_, fun j k hj hk h => y2_ne lb hj hk h, fn_rt rfl ?_⟩
  · obtain ⟨o1, o2, o3⟩ := y2_ok (cell := ns.getD a 0) (place := (ns.getD a 0 / 80 % ((1 + (ns.getD a 0 % ((20 : Nat) : Int)).toNat : Nat) : Int)).toNat) (size := 1 + (ns.getD a 0 % ((20 : Nat) : Int)).toNat) (F := F) lb ab k
    exact ⟨fin_lw o1, by rw [fin_len]; exact o2, by rw [fin_len]; exact o3⟩
  refine (sSeq_nx (sSet_eq ((dCall_eq (ps := [scr ns, .int a]) rfl).trans (hC ns a)))).trans ?_
  refine (sSeq_nx (sSet_eq (p := .int ((1 + (ns.getD a 0 % ((20 : Nat) : Int)).toNat : Nat) : Int)) ((dBin_eq (x := .int ((1 : Nat) : Int)) rfl ((dBin_eq (x := .int (ns.getD a 0)) (y := .int ((20 : Nat) : Int)) rfl rfl).trans (gMod_nat _ (by decide)))).trans rfl))).trans ?_
  refine (sSeq_nx (sSet_eq ((dCall_eq (ps := [scr ns, .int ((a + 1 : Nat) : Int)]) rfl).trans (hC ns (a + 1))))).trans ?_
  generalize ns.getD (a + 1) 0 = more at *
  generalize ns.getD a 0 = cell at *
  have ew' : dBin gIx (dLst (dCons (dC (.str "")) (dCons (dC (.str "")) (dCons (dC (.str "all")) (dCons (dC (.str "")) (dCons (dC (.str "any")) (dCons (dC (.str "")) (dCons (dC (.str "of")) (dCons (dC (.str "al")) dNil))))))))) (dBin gMod (dV 5) (dC (.int 8))) [.sh (scr ns), .sh (.int a), .sh (.int many), .sh (.int cell), .sh (.int ((1 + (cell % ((20 : Nat) : Int)).toNat : Nat) : Int)), .sh (.int more), .un, .un, .un, .un, .un] = some (.str w) := by
    refine (dBin_eq (x := .lst wordsL) ?_ ((dBin_eq (x := .int more) (y := .int ((8 : Nat) : Int)) rfl rfl).trans (gMod_nat _ (by decide)))).trans ew
    show (if (8 : Nat) ≤ sizeLine then some (PV.lst wordsL) else none) = _
    rw [if_pos (by omega)]
  refine (sSeq_nx (sSet_eq ew')).trans ?_
  refine (sSeq_nx (sSet_eq (p := .str b) ?_)).trans ?_
  · rw [← eb]
    refine dSlA_str (h := some ((20 : Nat) : Int)) ((dBin_eq (x := .str w) (y := .str x) rfl ?_).trans (gAdd_str _ _ (by omega))) rfl rfl (by rw [app_len]; omega)
    exact (dCall_eq (ps := [.int (more / 8), .int 20]) rfl).trans ex
  refine (sSeq_nx (sSetO_eq (l := []) rfl)).trans ?_
  exact (sSeq_nx ((sFor_eq (nRng_nat (n := many) rfl (by omega))).trans q3)).trans rfl
end
theorem names_eq (ns : List Int) (a many : Nat) (hm : many ≤ 6) : ∃ f : Nat → Str, (∀ k, OkN (f k)) ∧ (∀ j k, j < 6 → k < 6 → j ≠ k → f j ≠ f k) ∧ F_law_names [scr ns, .int a, .int many] = some (.lst (((List.range many).map f).map PV.str)) := names_gen cell_eq base_eq name_eq ns a many hm
end L2.D.My
set_option Elab.async false
set_option linter.all false
set_option maxRecDepth 100000
set_option maxHeartbeats 2000000
namespace L2.D.My
open PySem
theorem same_str (m : Nat) (x : Str) : Fr_law_same (m + 1) [.str x, .str x] = some (.bl true) := by
  refine fn_rt rfl ?_
  refine (sSeq_nx ((sIf_f ((tOr_f (tV_eq rfl)).trans (tV_eq rfl))).trans rfl)).trans ?_
  refine (sSeq_nx ((sIf_f (tV_eq rfl)).trans rfl)).trans ?_
  refine (sSeq_nx ((sIf_f (tV_eq rfl)).trans rfl)).trans ?_
  refine sSeq_rt ((sIf_t (tV_eq rfl)).trans (sRet_eq ?_))
  refine (dAndV_t rfl).trans ((dBin_eq (x := .str x) (y := .str x) rfl rfl).trans ?_)
  show some (PV.bl (decide (x = x))) = _
  rw [decide_eq_true rfl]
theorem item_nat {α : Type} {l : List α} {k : Nat} (h : k < l.length) : itemAt l ((k : Nat) : Int) = some l[k] := by
  unfold itemAt ixP
  rw [if_pos (by omega), if_pos (by omega)]
  show l[((k : Nat) : Int).toNat]? = _
  rw [Int.toNat_natCast, List.getElem?_eq_getElem h]
theorem same_lst {m : Nat} {l : List PV} (h : ∀ p ∈ l, Fr_law_same m [p, p] = some (.bl true)) (hl : l.length ≤ 5000) : Fr_law_same (m + 1) [.lst l, .lst l] = some (.bl true) := by
  refine fn_rt rfl ?_
  refine sSeq_rt ((sIf_t ((tOr_f (tV_eq rfl)).trans (tV_eq rfl))).trans ?_)
  refine (sSeq_nx ((sIf_f ((tOr_f (tV_eq rfl)).trans (tV_eq rfl))).trans rfl)).trans ?_
  refine (sSeq_nx ((sIf_f (tV_eq ((dBin_eq (x := .int (l.length : Nat)) (y := .int (l.length : Nat)) rfl rfl).trans ?_))).trans rfl)).trans ?_
  · rw [gNe_nat, decide_eq_true rfl]
    rfl
  obtain ⟨t, f⟩ := forL_stay (i := 2) (body := b_law_same_1 (Fr_law_same m)) (pl (List.range l.length)) [.sh (.lst l), .sh (.lst l), .un] (by
    intro x hx
    obtain ⟨k, hk, rfl⟩ := mem_pl hx
    have hk' := List.mem_range.mp hk
    have it := item_nat hk'
    have i0 : dBin gIx (dV 0) (dV 2) [.sh (.lst l), .sh (.lst l), .sh (.int (k : Nat))] = some l[k] := it
    have i1 : dBin gIx (dV 1) (dV 2) [.sh (.lst l), .sh (.lst l), .sh (.int (k : Nat))] = some l[k] := it
    exact (sIf_f (tNot_eq (b := true) (tV_eq ((dCall_eq (dCons_eq i0 (dCons_eq i1 rfl))).trans (h _ (List.getElem_mem hk')))))).trans rfl)
  exact (sSeq_nx ((sFor_eq (nRng_nat (n := l.length) rfl (by omega))).trans f)).trans rfl
theorem same_n (m : Nat) (a : Nat) : Fr_law_same (m + 1) [.int (a : Nat), .int (a : Nat)] = some (.bl true) := same_int (F := Fr_law_same m) a
structure Roll (r : List Str) : Prop where
  n1 : 1 ≤ r.length
  n6 : r.length ≤ 6
  ok : ∀ x ∈ r, OkN x
  nd : r.Nodup
theorem strsP_all : ∀ ts : List Str, strsP (ts.map PV.str) = some ts
  | [] => rfl
  | t :: ts => by
    show (strsP (ts.map PV.str)).map (t :: ·) = _
    rw [strsP_all ts]
    rfl
theorem idx_lt {x : Str} : ∀ {r : List Str}, x ∈ r → idxS x r < r.length
  | [], h => by cases h
  | y :: r, h => by
    unfold idxS
    split
    · rw [List.length_cons]; omega
    · rename_i hn
      have := idx_lt (r := r) ((List.mem_cons.mp h).resolve_left (Ne.symm hn))
      rw [List.length_cons]
      omega
theorem idx_get {x : Str} : ∀ {r : List Str}, x ∈ r → r[idxS x r]? = some x
  | [], h => by cases h
  | y :: r, h => by
    unfold idxS
    split
    · rename_i e
      rw [e]
      rfl
    · rename_i hn
      rw [Nat.add_comm, List.getElem?_cons_succ]
      exact idx_get ((List.mem_cons.mp h).resolve_left (Ne.symm hn))
theorem idx_uniq {x : Str} {r : List Str} (nd : r.Nodup) {j : Nat} (h : r[j]? = some x) : idxS x r = j := by
  have hm : x ∈ r := List.mem_of_getElem? h
  have h2 := idx_get hm
  obtain ⟨h3, e3⟩ := List.getElem?_eq_some_iff.mp h
  obtain ⟨h4, e4⟩ := List.getElem?_eq_some_iff.mp h2
  exact (List.getElem_inj nd).mp (e4.trans e3.symm)
theorem flat_strs : ∀ ts : List Str, (ts.map PV.str).all flat = true
  | [] => rfl
  | t :: ts => by
    rw [List.map_cons, List.all_cons, flat_strs ts]
    rfl
def gOf (r : List Str) (g : Nat) (ys : List Str) : Nat := ys.foldl (fun g y => g ||| 2 ^ idxS y r) g
theorem gOf_bit (r : List Str) : ∀ (ys : List Str) (g i : Nat), (gOf r g ys).testBit i = (g.testBit i || ys.any fun y => decide (idxS y r = i))
  | [], g, i => by
    rw [List.any_nil, Bool.or_false]
    rfl
  | y :: ys, g, i => by
    show (gOf r (g ||| 2 ^ idxS y r) ys).testBit i = _
    rw [gOf_bit r ys, Nat.testBit_or, Nat.testBit_two_pow, List.any_cons, Bool.or_assoc]
theorem group_for {r : List Str} (R : Roll r) (s1 : Slot) : ∀ (ys : List Str) (g : Nat) (s3 : Slot), (∀ y ∈ ys, As y ∧ y.length ≤ 5000) →
    if (ys.all fun y => decide (y ∈ r)) = true then ∃ t, forL (gtName 3) b_group_of_1 (ys.map PV.str) [.sh (.tup (r.map PV.str)), s1, .sh (.int (g : Nat)), s3] = some (.nx [.sh (.tup (r.map PV.str)), s1, .sh (.int (gOf r g ys : Nat)), t])
    else forL (gtName 3) b_group_of_1 (ys.map PV.str) [.sh (.tup (r.map PV.str)), s1, .sh (.int (g : Nat)), s3] = some (.rt (xMk 1))
  | [], g, s3, _ => by
    rw [List.all_nil, if_pos rfl]
    exact ⟨s3, rfl⟩
  | y :: ys, g, s3, h => by
    obtain ⟨ay, ly⟩ := h y (List.mem_cons_self ..)
    have t1 : tV (dBin gNotIn (dV 3) (dV 0)) [.sh (.tup (r.map PV.str)), s1, .sh (.int (g : Nat)), .sh (.str y)] = some (!decide (y ∈ r)) := by
      refine tV_eq ((dBin_eq (x := .str y) (y := .tup (r.map PV.str)) rfl rfl).trans ?_)
      show (if flat (.str y) && (r.map PV.str).all flat then some (PV.bl (!inP (.str y) (r.map PV.str))) else none) = _
      rw [flat_strs, inP_strs]
      rfl
    have rr : sRaise (okR (dV 3)) 1 [.sh (.tup (r.map PV.str)), s1, .sh (.int (g : Nat)), .sh (.str y)] = some (.rt (xMk 1)) := by
      unfold sRaise
      rw [if_pos]
      show (y.cps.all (· < 128) && decide (y.length ≤ 5000)) = true
      rw [as_all ay, decide_eq_true ly]
      rfl
    rw [List.map_cons, forL_eq]
    show if (y :: ys).all (fun y => decide (y ∈ r)) = true then ∃ t, ((b_group_of_1 [.sh (.tup (r.map PV.str)), s1, .sh (.int (g : Nat)), .sh (.str y)]).bind fun f => _) = _ else ((b_group_of_1 [.sh (.tup (r.map PV.str)), s1, .sh (.int (g : Nat)), .sh (.str y)]).bind fun f => _) = _
    rw [List.all_cons]
    by_cases hy : y ∈ r
    · rw [decide_eq_true hy] at t1 ⊢
      have hi := idx_lt hy
      have n6 := R.n6
      have e : b_group_of_1 [.sh (.tup (r.map PV.str)), s1, .sh (.int (g : Nat)), .sh (.str y)] = some (.nx [.sh (.tup (r.map PV.str)), s1, .sh (.int ((g ||| 2 ^ idxS y r : Nat) : Int)), .sh (.str y)]) := by
        refine (sSeq_nx ((sIf_f t1).trans rfl)).trans (sSet_eq ?_)
        refine (dBin_eq (x := .int (g : Nat)) rfl ((dBin_eq (x := .int 1) (y := .int (idxS y r : Nat)) rfl ?_).trans (shl_nat _ (by omega)))).trans (gOr_nat _ _)
        refine (dBin_eq (x := .tup (r.map PV.str)) (y := .str y) rfl rfl).trans ?_
        show (strsP (r.map PV.str)).bind (fun ts => if decide (y ∈ ts) then some (PV.int (idxS y ts : Nat)) else none) = _
        rw [strsP_all]
        show (if decide (y ∈ r) then some (PV.int (idxS y r : Nat)) else none) = _
        rw [decide_eq_true hy]
        rfl
      rw [e, Bool.true_and]
      exact group_for R s1 ys (g ||| 2 ^ idxS y r) (.sh (.str y)) fun z hz => h z (List.mem_cons_of_mem _ hz)
    · rw [decide_eq_false hy] at t1 ⊢
      have e : b_group_of_1 [.sh (.tup (r.map PV.str)), s1, .sh (.int (g : Nat)), .sh (.str y)] = some (.rt (xMk 1)) := sSeq_rt ((sIf_t t1).trans rr)
      rw [Bool.false_and, if_neg Bool.noConfusion, e]
      rfl
def toldG (r ys : List Str) : PV := if (ys.all fun y => decide (y ∈ r)) = true then .int (gOf r 0 ys : Nat) else .lst [.str "NoHand"]
theorem gtold_eq {r ys : List Str} (R : Roll r) (h : ∀ y ∈ ys, As y ∧ y.length ≤ 5000) : F_law_group_told [.tup (r.map PV.str), .lst (ys.map PV.str)] = some (toldG r ys) := by
  have f := group_for R (.sh (.lst (ys.map PV.str))) ys 0 .un h
  show (F_group_of [.tup (r.map PV.str), .lst (ys.map PV.str)]).bind (toldP ["NoGroup", "NoHand"]) = _
  unfold toldG
  by_cases hg : (ys.all fun y => decide (y ∈ r)) = true
  · rw [if_pos hg] at f ⊢
    obtain ⟨t, f⟩ := f
    have e : F_group_of [.tup (r.map PV.str), .lst (ys.map PV.str)] = some (.int (gOf r 0 ys : Nat)) := fn_rt rfl ((sSeq_nx (sSet_eq (p := .int ((0 : Nat) : Int)) rfl)).trans ((sSeq_nx ((sFor_eq (xs := ys.map PV.str) rfl).trans f)).trans rfl))
    rw [e]
    rfl
  · rw [if_neg hg] at f ⊢
    have e : F_group_of [.tup (r.map PV.str), .lst (ys.map PV.str)] = some (xMk 1) := fn_rt rfl ((sSeq_nx (sSet_eq (p := .int ((0 : Nat) : Int)) rfl)).trans (sSeq_rt ((sFor_eq (xs := ys.map PV.str) rfl).trans f)))
    rw [e]
    rfl
def lgo (ys : List Str) : List Str → Nat → Nat → Nat
  | [], _, f => f
  | x :: xs, i, f => lgo ys xs (i + 1) (if decide (x ∈ ys) = true then f + 2 ^ i else f)
theorem lgo_bit (ys : List Str) : ∀ (xs : List Str) (i f j : Nat), f < 2 ^ i → (lgo ys xs i f).testBit j = if j < i then f.testBit j else match xs[j - i]? with | some x => decide (x ∈ ys) | none => false
  | [], i, f, j, h => by
    show f.testBit j = _
    split
    · rfl
    · exact Nat.testBit_lt_two_pow (Nat.lt_of_lt_of_le h (Nat.pow_le_pow_right (by decide) (by omega)))
  | x :: xs, i, f, j, h => by
    have h2 : (if decide (x ∈ ys) = true then f + 2 ^ i else f) < 2 ^ (i + 1) := by
      rw [Nat.pow_succ]
      split <;> omega
    show (lgo ys xs (i + 1) _).testBit j = _
    rw [lgo_bit ys xs (i + 1) _ j h2]
    by_cases h1 : j < i
    · rw [if_pos (by omega), if_pos h1]
      split
      · rw [Nat.add_comm, Nat.testBit_two_pow_add_gt h1]
      · rfl
    · rw [if_neg h1]
      by_cases h3 : j = i
      · subst h3
        rw [if_pos (by omega), Nat.sub_self, List.getElem?_cons_zero]
        have hf : f.testBit j = false := Nat.testBit_lt_two_pow h
        split
        · rename_i hd
          rw [Nat.add_comm, Nat.testBit_two_pow_add_eq, hf]
          exact hd.symm
        · rename_i hd
          rw [hf]
          simpa using hd
      · rw [if_neg (by omega)]
        have : j - i = (j - (i + 1)) + 1 := by omega
        rw [this, List.getElem?_cons_succ]
theorem gOf_lgo {r ys : List Str} (nd : r.Nodup) (h : ∀ y ∈ ys, y ∈ r) : gOf r 0 ys = lgo ys r 0 0 := by
  apply Nat.eq_of_testBit_eq
  intro j
  rw [gOf_bit, lgo_bit ys r 0 0 j (by decide), if_neg (by omega), Nat.zero_testBit, Bool.false_or, Nat.sub_zero]
  rw [Bool.eq_iff_iff, List.any_eq_true]
  constructor
  · rintro ⟨y, hy, e⟩
    have e := of_decide_eq_true e
    have := idx_get (h y hy)
    rw [e] at this
    rw [this]
    exact decide_eq_true hy
  · intro e
    split at e
    · rename_i x hx
      exact ⟨x, of_decide_eq_true e, decide_eq_true (idx_uniq nd hx)⟩
    · cases e
theorem gOf_mem {r ys zs : List Str} (h : ∀ x, x ∈ ys ↔ x ∈ zs) : gOf r 0 ys = gOf r 0 zs := by
  apply Nat.eq_of_testBit_eq
  intro j
  rw [gOf_bit, gOf_bit]
  congr 1
  rw [Bool.eq_iff_iff, List.any_eq_true, List.any_eq_true]
  constructor
  · rintro ⟨y, hy, e⟩; exact ⟨y, (h y).mp hy, e⟩
  · rintro ⟨y, hy, e⟩; exact ⟨y, (h y).mpr hy, e⟩
theorem lgroup_for (s0 : Slot) (ys : List Str) : ∀ (xs : List Str) (i f : Nat) (s4 : Slot), i + xs.length ≤ 6 → ∃ t, forL (gtName 4) b_law_group_1 (xs.map PV.str) [s0, .sh (.lst (ys.map PV.str)), .sh (.int ((2 ^ i : Nat) : Int)), .sh (.int (f : Nat)), s4] = some (.nx [s0, .sh (.lst (ys.map PV.str)), .sh (.int ((2 ^ (i + xs.length) : Nat) : Int)), .sh (.int (lgo ys xs i f : Nat)), t])
  | [], i, f, s4, _ => ⟨s4, rfl⟩
  | x :: xs, i, f, s4, h => by
    rw [List.length_cons] at h
    have t1 : tV (dBin gIn (dV 4) (dV 1)) [s0, .sh (.lst (ys.map PV.str)), .sh (.int ((2 ^ i : Nat) : Int)), .sh (.int (f : Nat)), .sh (.str x)] = some (decide (x ∈ ys)) := by
      refine tV_eq ((dBin_eq (x := .str x) (y := .lst (ys.map PV.str)) rfl rfl).trans ?_)
      show (if flat (.str x) && (ys.map PV.str).all flat then some (PV.bl (inP (.str x) (ys.map PV.str))) else none) = _
      rw [flat_strs, inP_strs]
      rfl
    have e2 : ∀ f' : Nat, sSet 2 (dBin gMul (dV 2) (dC (.int 2))) [s0, .sh (.lst (ys.map PV.str)), .sh (.int ((2 ^ i : Nat) : Int)), .sh (.int (f' : Nat)), .sh (.str x)] = some (.nx [s0, .sh (.lst (ys.map PV.str)), .sh (.int ((2 ^ (i + 1) : Nat) : Int)), .sh (.int (f' : Nat)), .sh (.str x)]) := fun f' => by
      have hp : (2 : Nat) ^ i ≤ 2 ^ 6 := Nat.pow_le_pow_right (by decide) (by omega)
      have p0 : (0 : Int) ≤ ((2 ^ i : Nat) : Int) := Int.natCast_nonneg _
      have p1 : ((2 ^ i : Nat) : Int) ≤ ((2 ^ 6 : Nat) : Int) := Int.ofNat_le.mpr hp
      refine (sSet_eq ((dBin_eq (x := .int ((2 ^ i : Nat) : Int)) (y := .int 2) rfl rfl).trans (mul_small (Int.le_trans (by decide) p0) (Int.le_trans p1 (by decide))))).trans ?_
      have : ((2 ^ i : Nat) : Int) * 2 = ((2 ^ (i + 1) : Nat) : Int) := by rw [Nat.pow_succ, Int.natCast_mul]; rfl
      rw [this]
      rfl
    have st : ∃ f' : Nat, f' = (if decide (x ∈ ys) = true then f + 2 ^ i else f) ∧ b_law_group_1 [s0, .sh (.lst (ys.map PV.str)), .sh (.int ((2 ^ i : Nat) : Int)), .sh (.int (f : Nat)), .sh (.str x)] = some (.nx [s0, .sh (.lst (ys.map PV.str)), .sh (.int ((2 ^ (i + 1) : Nat) : Int)), .sh (.int (f' : Nat)), .sh (.str x)]) := by
      cases hd : decide (x ∈ ys) with
      | false =>
        rw [hd] at t1
        exact ⟨f, rfl, (sSeq_nx ((sIf_f t1).trans rfl)).trans (e2 f)⟩
      | true =>
        rw [hd] at t1
        refine ⟨f + 2 ^ i, rfl, (sSeq_nx ((sIf_t t1).trans (sSet_eq (p := .int ((f + 2 ^ i : Nat) : Int)) ?_))).trans (e2 (f + 2 ^ i))⟩
        exact (dBin_eq (x := .int (f : Nat)) (y := .int ((2 ^ i : Nat) : Int)) rfl rfl).trans rfl
    obtain ⟨f', ef, st⟩ := st
    obtain ⟨t, ih⟩ := lgroup_for s0 ys xs (i + 1) f' (.sh (.str x)) (by omega)
    refine ⟨t, ?_⟩
    rw [List.map_cons]
    refine (forL_nx (i := 4) (x := .str x) (ρ := [s0, .sh (.lst (ys.map PV.str)), .sh (.int ((2 ^ i : Nat) : Int)), .sh (.int (f : Nat)), s4]) st).trans (ih.trans ?_)
    rw [ef, List.length_cons, Nat.add_assoc, Nat.add_comm 1]
    rfl
theorem lgroup_eq {r ys : List Str} (R : Roll r) (h : ∀ y ∈ ys, y ∈ r) : F_law_group [.tup (r.map PV.str), .lst (ys.map PV.str)] = some (.int (gOf r 0 ys : Nat)) := by
  obtain ⟨t, f⟩ := lgroup_for (.sh (.tup (r.map PV.str))) ys r 0 0 .un (by have := R.n6; omega)
  rw [gOf_lgo R.nd h]
  refine fn_rt rfl ((sSeq_nx (sSet_eq (p := .int ((2 ^ 0 : Nat) : Int)) rfl)).trans ((sSeq_nx (sSet_eq (p := .int ((0 : Nat) : Int)) rfl)).trans ((sSeq_nx ((sFor_eq (xs := r.map PV.str) rfl).trans f)).trans rfl)))
def sel (r : List Str) (m : Nat) : List Str := (Mt.hands m).map fun h => r.getD h ""
def mem : List Str → Nat → List Str
  | [], _ => []
  | x :: xs, g => (if g % 2 = 1 then [x] else []) ++ mem xs (g / 2)
theorem mem_sel : ∀ (r : List Str) (m : Nat), mem r m = ((List.range r.length).filter fun i => m.testBit i).map fun i => r.getD i ""
  | [], m => rfl
  | x :: r, m => by
    have ih := mem_sel r (m / 2)
    rw [List.length_cons, List.range_succ_eq_map, List.filter_cons, List.filter_map]
    have e : ((fun i => m.testBit i) ∘ Nat.succ) = fun i => (m / 2).testBit i := by
      funext i
      exact Nat.testBit_succ m i
    rw [e]
    show (if m % 2 = 1 then [x] else []) ++ mem r (m / 2) = _
    rw [ih, Nat.testBit_zero]
    by_cases h : m % 2 = 1
    · rw [if_pos h, if_pos (decide_eq_true h), List.map_cons, List.map_map]
      rfl
    · rw [if_neg h, if_neg (by simpa using h), List.map_map]
      rfl
theorem hands_chk2 : ((List.range 7).all fun n => (List.range (2 ^ n)).all fun g => Mt.hands g == (List.range n).filter fun i => g.testBit i) = true := by decide +kernel
theorem hands_n {n g : Nat} (hn : n ≤ 6) (hg : g < 2 ^ n) : Mt.hands g = (List.range n).filter fun i => g.testBit i :=
  beq_iff_eq.mp (List.all_eq_true.mp (List.all_eq_true.mp hands_chk2 n (List.mem_range.mpr (by omega))) g (List.mem_range.mpr hg))
theorem sel_mem {r : List Str} (R : Roll r) {m : Nat} (h : m < 2 ^ r.length) : sel r m = mem r m := by
  rw [mem_sel]
  unfold sel
  rw [hands_n R.n6 h]
theorem members_for (s0 : Slot) : ∀ (xs : List Str) (g : Nat) (acc : List Str) (s3 : Slot), acc.length + xs.length ≤ 100 → ∃ (g' : Nat) (t : Slot), forL (gtName 3) b_law_members_1 (xs.map PV.str) [s0, .sh (.int (g : Nat)), .ow (acc.map PV.str), s3] = some (.nx [s0, .sh (.int (g' : Nat)), .ow ((acc ++ mem xs g).map PV.str), t])
  | [], g, acc, s3, _ => ⟨g, s3, by unfold mem; rw [List.append_nil]; rfl⟩
  | x :: xs, g, acc, s3, h => by
    have zl : (5000 : Nat) ≤ sizeLine := by decide
    rw [List.length_cons] at h
    have t1 : tV (dBin gEq (dBin gMod (dV 1) (dC (.int 2))) (dC (.int 1))) [s0, .sh (.int (g : Nat)), .ow (acc.map PV.str), .sh (.str x)] = some (decide (g % 2 = 1)) := by
      refine tV_eq ((dBin_eq (x := .int ((g % 2 : Nat) : Int)) (y := .int 1) ((dBin_eq (x := .int (g : Nat)) (y := .int 2) rfl rfl).trans ((gMod_pos _ (by decide)).trans ?_)) rfl).trans ?_)
      · congr 2
      · show some (PV.bl (decide (((g % 2 : Nat) : Int) = 1))) = _
        congr 2
        rw [decide_eq_decide]
        omega
    have e2 : ∀ l, sSet 1 (dBin gDiv (dV 1) (dC (.int 2))) [s0, .sh (.int (g : Nat)), .ow l, .sh (.str x)] = some (.nx [s0, .sh (.int ((g / 2 : Nat) : Int)), .ow l, .sh (.str x)]) := fun l => by
      refine sSet_eq (p := .int ((g / 2 : Nat) : Int)) ((dBin_eq (x := .int (g : Nat)) (y := .int 2) rfl rfl).trans ((gDiv_pos _ (by decide) (by decide)).trans ?_))
      congr 2
    have st : b_law_members_1 [s0, .sh (.int (g : Nat)), .ow (acc.map PV.str), .sh (.str x)] = some (.nx [s0, .sh (.int ((g / 2 : Nat) : Int)), .ow ((acc ++ (if g % 2 = 1 then [x] else [])).map PV.str), .sh (.str x)]) := by
      by_cases hd : g % 2 = 1
      · rw [decide_eq_true hd] at t1
        rw [if_pos hd]
        refine (sSeq_nx ((sIf_t t1).trans ?_)).trans (e2 _)
        show ((if (acc.map PV.str).length < sizeLine then some (acc.map PV.str ++ [PV.str x]) else none).map fun l' => Fl.nx [s0, .sh (.int (g : Nat)), .ow l', .sh (.str x)]) = _
        rw [if_pos (by rw [List.length_map]; omega), List.map_append]
        rfl
      · rw [decide_eq_false hd] at t1
        rw [if_neg hd, List.append_nil]
        exact (sSeq_nx ((sIf_f t1).trans rfl)).trans (e2 _)
    obtain ⟨g', t, ih⟩ := members_for s0 xs (g / 2) (acc ++ (if g % 2 = 1 then [x] else [])) (.sh (.str x)) (by rw [List.length_append]; split <;> simp <;> omega)
    refine ⟨g', t, ?_⟩
    rw [List.map_cons]
    refine (forL_nx (i := 3) (x := .str x) (ρ := [s0, .sh (.int (g : Nat)), .ow (acc.map PV.str), s3]) st).trans (ih.trans ?_)
    rw [List.append_assoc]
    rfl
theorem members_eq {r : List Str} (R : Roll r) (m : Nat) : F_law_members [.tup (r.map PV.str), .int (m : Nat)] = some (.lst ((mem r m).map PV.str)) := by
  obtain ⟨g', t, f⟩ := members_for (.sh (.tup (r.map PV.str))) r m [] .un (by have := R.n6; simp; omega)
  exact fn_rt rfl ((sSeq_nx (sSetO_eq (l := []) rfl)).trans ((sSeq_nx ((sFor_eq (xs := r.map PV.str) rfl).trans f)).trans rfl))
def toldN (r : List Str) (g : Int) : PV := if (decide (0 ≤ g) && decide (g < ((2 ^ r.length : Nat) : Int))) = true then .lst ((sel r g.toNat).map PV.str) else .tup [.str "NoGroup"]
theorem comp_ix {r : List Str} {ρ : Sto} (h0 : dV 0 ρ = some (.tup (r.map PV.str))) : ∀ (hs : List Nat), (∀ h ∈ hs, h < r.length) → compL tTrue (dBin gIx (dV 1) (dV 0)) ρ (pl hs) = some ((hs.map fun h => r.getD h "").map PV.str)
  | [], _ => rfl
  | h :: hs, hh => by
    have hl := hh h (List.mem_cons_self ..)
    have e : dBin gIx (dV 1) (dV 0) (.sh (.int (h : Nat)) :: ρ) = some (.str (r.getD h "")) := by
      refine (dBin_eq (x := .tup (r.map PV.str)) (y := .int (h : Nat)) (show dV 1 (.sh (.int (h : Nat)) :: ρ) = _ from h0) rfl).trans ?_
      show itemAt (r.map PV.str) ((h : Nat) : Int) = _
      rw [item_nat (by rw [List.length_map]; exact hl), List.getElem_map, List.getD_eq_getElem?_getD, List.getElem?_eq_getElem hl]
      rfl
    show ((dBin gIx (dV 1) (dV 0) (.sh (.int (h : Nat)) :: ρ)).bind fun z => (compL tTrue (dBin gIx (dV 1) (dV 0)) ρ (pl hs)).map (z :: ·)) = _
    rw [e, comp_ix h0 hs fun k hk => hh k (List.mem_cons_of_mem _ hk)]
    rfl
theorem dComp_eq {it : DenL} {c : DenT} {e : Den} {ρ : Sto} {xs zs : List PV} (h1 : it ρ = some xs) (h2 : xs.length ≤ 5000) (h3 : compL c e ρ xs = some zs) : dComp it c e ρ = some (.lst zs) := by
  have zl : (5000 : Nat) ≤ sizeLine := by decide
  unfold dComp
  rw [h1]
  show (if xs.length ≤ sizeLine then (compL c e ρ xs).map PV.lst else none) = _
  rw [if_pos (by omega), h3]
  rfl
theorem hands_mem {n g h : Nat} (hn : n ≤ 6) (hg : g < 2 ^ n) (hh : h ∈ Mt.hands g) : h < n := by
  rw [hands_n hn hg] at hh
  exact List.mem_range.mp (List.mem_filter.mp hh).1
theorem shl_len {r : List Str} (R : Roll r) {ρ : Sto} {i : Nat} (h : dV i ρ = some (.tup (r.map PV.str))) : dBin gShl (dC (.int 1)) (dUn gLen (dV i)) ρ = some (.int ((2 ^ r.length : Nat) : Int)) := by
  refine (dBin_eq (x := .int 1) (y := .int (r.length : Nat)) rfl ((dUn_eq h).trans ?_)).trans (shl_nat _ R.n6)
  show some (PV.int (((r.map PV.str).length : Nat) : Int)) = _
  rw [List.length_map]
theorem okI_of {a : Den} {ρ : Sto} {i : Int} (h : a ρ = some (.int i)) (hi : i.natAbs < 10 ^ 100) : okI a ρ = true := by
  unfold okI
  rw [h]
  exact decide_eq_true hi
theorem nList_eq {a : Den} {ρ : Sto} {l : List PV} (h : a ρ = some (.lst l)) : nList a ρ = some l := by
  unfold nList
  rw [h]
  rfl
theorem sRetXO_eq {a : Den} {ρ : Sto} {l : List PV} (h : a ρ = some (.lst l)) : sRetXO a ρ = some (.rt (.lst l)) := by
  unfold sRetXO
  rw [h]
  rfl
theorem ntold_eq {r : List Str} (R : Roll r) (g : Int) (hg : g.natAbs < 10 ^ 100) : F_law_names_told [.tup (r.map PV.str), .int g] = some (toldN r g) := by
  show (F_names_of [.tup (r.map PV.str), .int g]).bind (toldT ["NoGroup", "NoHand"]) = _
  have ec : dChainLL (dC (.int 0)) (dV 1) (dBin gShl (dC (.int 1)) (dUn gLen (dV 0))) [.sh (.tup (r.map PV.str)), .sh (.int g)] = some (.bl (decide (0 ≤ g) && decide (g < ((2 ^ r.length : Nat) : Int)))) := by
    unfold dChainLL
    rw [shl_len R rfl]
    show (if (0 : Int) ≤ g then some (PV.bl (decide (g < ((2 ^ r.length : Nat) : Int)))) else some (.bl false)) = _
    by_cases h0 : 0 ≤ g
    · rw [if_pos h0, decide_eq_true h0, Bool.true_and]
    · rw [if_neg h0, decide_eq_false h0, Bool.false_and]
  have tc := tNot_eq (tV_eq ec)
  unfold toldN
  cases hb : decide (0 ≤ g) && decide (g < ((2 ^ r.length : Nat) : Int)) with
  | false =>
    rw [hb] at tc
    have e : F_names_of [.tup (r.map PV.str), .int g] = some (xMk 0) := by
      refine fn_rt rfl (sSeq_rt ((sIf_t tc).trans ?_))
      unfold sRaise
      rw [if_pos (okI_of (a := dV 1) rfl hg)]
    rw [e]
    rfl
  | true =>
    rw [hb] at tc
    rw [Bool.and_eq_true] at hb
    have h0 := of_decide_eq_true hb.1
    have h1 := of_decide_eq_true hb.2
    obtain ⟨m, rfl⟩ : ∃ m : Nat, g = (m : Int) := ⟨g.toNat, by omega⟩
    have hm : m < 2 ^ r.length := Int.ofNat_lt.mp h1
    have hm64 : m < 64 := Nat.lt_of_lt_of_le hm (Nat.pow_le_pow_right (n := 2) (by decide) R.n6)
    have e : F_names_of [.tup (r.map PV.str), .int (m : Nat)] = some (.lst ((sel r m).map PV.str)) := by
      refine fn_rt rfl ((sSeq_nx ((sIf_f tc).trans rfl)).trans ?_)
      have ecomp : dComp (nList (dCall F_hands_of (dCons (dVS 1) dNil))) tTrue (dBin gIx (dV 1) (dV 0)) [.sh (.tup (r.map PV.str)), .sh (.int (m : Nat))] = some (.lst ((sel r m).map PV.str)) := by
        have eh : F_hands_of [.int (m : Nat)] = some (pints (Mt.hands m)) := hands_eq m hm64
        refine dComp_eq (xs := pl (Mt.hands m)) ?_ ?_ (comp_ix rfl (Mt.hands m) fun h hh => hands_mem R.n6 hm hh)
        · exact nList_eq ((dCall_eq (ps := [.int (m : Nat)]) rfl).trans eh)
        · rw [List.length_map]
          refine Nat.le_trans (List.length_filter_le _ _) ?_
          rw [List.length_range]
          decide
      exact sRetXO_eq ecomp
    rw [e]
    rfl
theorem up_chk : ((List.range 26).all fun i => decide ((Txt.upper (lett i)).length ≤ 3) && asB (Txt.upper (lett i))) = true := by decide +kernel
theorem up_ok {c : Nat} (h1 : 97 ≤ c) (h2 : c ≤ 122) : ∃ u : Str, As u ∧ u.length ≤ 3 ∧ gUp (.str ⟨#[c]⟩) = some (.str u) := by
  have := List.all_eq_true.mp up_chk (c - 97) (List.mem_range.mpr (by omega))
  rw [Bool.and_eq_true] at this
  have e : lett (c - 97) = ⟨#[c]⟩ := by
    unfold lett
    rw [show 97 + (c - 97) = c by omega]
  rw [e] at this
  have hl := of_decide_eq_true this.1
  refine ⟨_, as_of this.2, hl, ?_⟩
  show (if decide ((Txt.upper ⟨#[c]⟩).length ≤ 1000) then some (PV.str (Txt.upper ⟨#[c]⟩)) else none) = _
  rw [decide_eq_true (by omega)]
  rfl
theorem last_ix {x : Str} (h : OkN x) : ∃ c : Nat, 97 ≤ c ∧ c ≤ 122 ∧ gIx (.str x) (.int (-1)) = some (.str ⟨#[c]⟩) := by
  have zl : (5000 : Nat) ≤ sizeLine := by decide
  obtain ⟨lw, n1, n2⟩ := h
  have hlen : x.cps.toList.length = x.length := Array.length_toList
  have hl : x.length - 1 < x.cps.toList.length := by omega
  obtain ⟨a, b⟩ := lw _ (List.getElem_mem hl)
  refine ⟨x.cps.toList[x.length - 1], a, b, ?_⟩
  show (if x.length ≤ sizeLine then (itemAt x.cps.toList (-1)).map (fun c => PV.str ⟨#[c]⟩) else none) = _
  rw [if_pos (by omega)]
  have : itemAt x.cps.toList (-1) = some (x.cps.toList[x.length - 1]) := by
    unfold itemAt ixP
    rw [if_neg (by omega), if_pos (by omega)]
    show x.cps.toList[((-1 : Int) + (x.cps.toList.length : Nat)).toNat]? = _
    rw [show ((-1 : Int) + (x.cps.toList.length : Nat)).toNat = x.length - 1 by omega, List.getElem?_eq_getElem hl]
  rw [this]
  rfl
theorem five_ix {a b c d e : Str} {P : Str → Prop} (ha : P a) (hb : P b) (hc : P c) (hd : P d) (he : P e) {j : Nat} (h : j < 5) : ∃ z, P z ∧ gIx (.lst [.str a, .str b, .str c, .str d, .str e]) (.int (j : Nat)) = some (.str z) := by
  have : j = 0 ∨ j = 1 ∨ j = 2 ∨ j = 3 ∨ j = 4 := by omega
  rcases this with rfl | rfl | rfl | rfl | rfl
  · exact ⟨a, ha, rfl⟩
  · exact ⟨b, hb, rfl⟩
  · exact ⟨c, hc, rfl⟩
  · exact ⟨d, hd, rfl⟩
  · exact ⟨e, he, rfl⟩
theorem as_a : As ("a" : Str) := as_of (by decide +kernel)
theorem len_a : ("a" : Str).length = 1 := by decide +kernel
theorem while_no {r : List Str} (R : Roll r) (s1 s2 : Slot) : ∀ (n : Nat) (y : Str), As y → 51 ≤ y.length + n → y.length ≤ 100 → ∃ z : Str, As z ∧ z ∉ r ∧ z.length ≤ 100 ∧ whileN (tV (dBin gIn (dV 3) (dV 0))) b_law_no_hand_1 (n + 1) [.sh (.tup (r.map PV.str)), s1, s2, .sh (.str y)] = some (.nx [.sh (.tup (r.map PV.str)), s1, s2, .sh (.str z)]) := by
  intro n
  induction n with
  | zero =>
    intro y ay h1 h2
    have hn : y ∉ r := fun h => by have := (R.ok y h).2.2; omega
    refine ⟨y, ay, hn, h2, ?_⟩
    have t : tV (dBin gIn (dV 3) (dV 0)) [.sh (.tup (r.map PV.str)), s1, s2, .sh (.str y)] = some (decide (y ∈ r)) := by
      refine tV_eq ((dBin_eq (x := .str y) (y := .tup (r.map PV.str)) rfl rfl).trans ?_)
      show (if flat (.str y) && (r.map PV.str).all flat then some (PV.bl (inP (.str y) (r.map PV.str))) else none) = _
      rw [flat_strs, inP_strs]
      rfl
    rw [decide_eq_false hn] at t
    unfold whileN
    rw [t]
    rfl
  | succ n ih =>
    intro y ay h1 h2
    have t : tV (dBin gIn (dV 3) (dV 0)) [.sh (.tup (r.map PV.str)), s1, s2, .sh (.str y)] = some (decide (y ∈ r)) := by
      refine tV_eq ((dBin_eq (x := .str y) (y := .tup (r.map PV.str)) rfl rfl).trans ?_)
      show (if flat (.str y) && (r.map PV.str).all flat then some (PV.bl (inP (.str y) (r.map PV.str))) else none) = _
      rw [flat_strs, inP_strs]
      rfl
    by_cases hy : y ∈ r
    · have hl := (R.ok y hy).2.2
      obtain ⟨z, a1, a2, a3, a4⟩ := ih (y ++ "a") (as_app ay as_a) (by rw [app_len, len_a]; omega) (by rw [app_len, len_a]; omega)
      refine ⟨z, a1, a2, a3, ?_⟩
      rw [decide_eq_true hy] at t
      have eb : b_law_no_hand_1 [.sh (.tup (r.map PV.str)), s1, s2, .sh (.str y)] = some (.nx [.sh (.tup (r.map PV.str)), s1, s2, .sh (.str (y ++ "a"))]) := sSet_eq (p := .str (y ++ "a")) ((dBin_eq (x := .str y) (y := .str "a") rfl rfl).trans (gAdd_str _ _ (by rw [len_a]; omega)))
      unfold whileN
      rw [t]
      show ((b_law_no_hand_1 [.sh (.tup (r.map PV.str)), s1, s2, .sh (.str y)]).bind fun f => _) = _
      rw [eb]
      exact a4
    · refine ⟨y, ay, hy, h2, ?_⟩
      rw [decide_eq_false hy] at t
      unfold whileN
      rw [t]
      rfl
theorem nohand_eq {r : List Str} (R : Roll r) {x : Str} (hx : OkN x) (c : Int) : ∃ z : Str, As z ∧ z ∉ r ∧ z.length ≤ 100 ∧ F_law_no_hand [.tup (r.map PV.str), .str x, .int c] = some (.str z) := by
  obtain ⟨ch, c1, c2, ec⟩ := last_ix hx
  obtain ⟨u, u1, u2, u3⟩ := up_ok c1 c2
  obtain ⟨lw, n1, n2⟩ := hx
  have cl := cut_le x none (some (-1 : Int)) (st := 1) (by decide)
  have hj := mod_lt c (n := 5) (by decide)
  have ac : As (cutS x none (some (-1)) 1) := (lw_cut lw _ _ _).as
  have e1 : ∀ ρ, dV 1 ρ = some (.str x) → dSlA (dV 1) oNone (oSome (dUn gNeg (dC (.int 1)))) ρ = some (.str (cutS x none (some (-1)) 1)) := fun ρ h => dSlA_str (y := x) (h := some (-1)) h rfl rfl (by omega)
  obtain ⟨y, ⟨y1, y2⟩, y3⟩ := five_ix (a := cutS x none (some (-1)) 1) (b := x ++ "a") (c := "") (d := cutS x none (some (-1)) 1 ++ u) (e := "all") (P := fun z => As z ∧ z.length ≤ 100)
    ⟨ac, by omega⟩ ⟨as_app lw.as as_a, by rw [app_len, len_a]; omega⟩ ⟨as_of (by decide +kernel), by decide +kernel⟩ ⟨as_app ac u1, by rw [app_len]; omega⟩ ⟨as_of (by decide +kernel), by decide +kernel⟩ hj
  obtain ⟨z, z1, z2, z3, z4⟩ := while_no R (.sh (.str x)) (.sh (.int c)) 999 y y1 (by omega) y2
  refine ⟨z, z1, z2, z3, fn_rt rfl ?_⟩
  refine (sSeq_nx (sSet_eq (p := .str y) ?_)).trans ((sSeq_nx z4).trans rfl)
  refine (dBin_eq (dLst_eq (dCons_eq (e1 _ rfl) (dCons_eq ((dBin_eq (x := .str x) (y := .str "a") rfl rfl).trans (gAdd_str _ _ (by rw [len_a]; omega))) (dCons_eq (x := .str "") rfl (dCons_eq ((dBin_eq (e1 _ rfl) ((dUn_eq ((dBin_eq (x := .str x) (y := .int (-1)) rfl rfl).trans ec)).trans u3)).trans (gAdd_str _ _ (by omega))) (dCons_eq (x := .str "all") rfl rfl))))) (by simp)) ((dBin_eq (x := .int c) (y := .int ((5 : Nat) : Int)) rfl rfl).trans (gMod_nat _ (by decide)))).trans y3
theorem gMul_bit (a : Int) {b : Int} (h : b = 0 ∨ b = 1) : gMul (.int a) (.int b) = some (.int (a * b)) := by
  have : mulOk a b = true := by
    unfold mulOk
    rw [Bool.or_eq_true, Bool.and_eq_true, Bool.and_eq_true]
    rcases h with rfl | rfl <;> exact .inr ⟨by decide, by decide⟩
  show (if mulOk a b then some (PV.int (a * b)) else none) = _
  rw [if_pos this]
theorem number_eq (c far : Int) {n : Nat} (hn : n ≤ 6) (h0 : 0 ≤ far) (h1 : far < 10 ^ 59) : ∃ g : Int, g.natAbs < 10 ^ 60 ∧ F_law_number [.int c, .int ((2 ^ n : Nat) : Int), .int far] = some (.int g) := by
  have hp : (2 : Nat) ^ n ≤ 2 ^ 6 := Nat.pow_le_pow_right (by decide) hn
  have p0 : (0 : Int) < ((2 ^ n : Nat) : Int) := Int.ofNat_lt.mpr (Nat.two_pow_pos n)
  have p1 : ((2 ^ n : Nat) : Int) ≤ 64 := Int.ofNat_le.mpr hp
  generalize ((2 ^ n : Nat) : Int) = q at p0 p1
  have hb : c / 8 % 2 = 0 ∨ c / 8 % 2 = 1 := by omega
  have tt : ∀ k : Int, tV (dBin gEq (dBin gMod (dV 0) (dC (.int 8))) (dC (.int k))) [.sh (.int c), .sh (.int q), .sh (.int far)] = some (decide (c % 8 = k)) := fun k => tV_eq rfl
  have em : dBin gMul (dV 2) (dBin gMod (dBin gDiv (dV 0) (dC (.int 8))) (dC (.int 2))) [.sh (.int c), .sh (.int q), .sh (.int far)] = some (.int (far * (c / 8 % 2))) := (dBin_eq (x := .int far) (y := .int (c / 8 % 2)) rfl rfl).trans (gMul_bit far hb)
  have fb : 0 ≤ far * (c / 8 % 2) ∧ far * (c / 8 % 2) < 10 ^ 59 := by
    rcases hb with h | h <;> rw [h]
    · rw [Int.mul_zero]; decide
    · rw [Int.mul_one]; exact ⟨h0, h1⟩
  generalize far * (c / 8 % 2) = v at em fb
  by_cases h8 : c % 8 = 1
  · have t := tt 1
    rw [decide_eq_true h8] at t
    refine ⟨-1 - v, by omega, fn_rt rfl (sSeq_rt ((sIf_t t).trans (sRet_eq ((dBin_eq (x := .int (-1)) rfl em).trans rfl))))⟩
  have t1 := tt 1
  rw [decide_eq_false h8] at t1
  by_cases h9 : c % 8 = 2
  · have t := tt 2
    rw [decide_eq_true h9] at t
    refine ⟨q + v, by omega, fn_rt rfl ((sSeq_nx ((sIf_f t1).trans rfl)).trans (sSeq_rt ((sIf_t t).trans (sRet_eq ((dBin_eq (x := .int q) rfl em).trans rfl)))))⟩
  · have t := tt 2
    rw [decide_eq_false h9] at t
    have b1 := Int.emod_nonneg (c / 8) (show q ≠ 0 by omega)
    have b2 := Int.emod_lt_of_pos (c / 8) p0
    refine ⟨c / 8 % q, by omega, fn_rt rfl ((sSeq_nx ((sIf_f t1).trans rfl)).trans ((sSeq_nx ((sIf_f t).trans rfl)).trans (sRet_eq ((dBin_eq (x := .int (c / 8)) (y := .int q) rfl rfl).trans (gMod_pos _ p0)))))⟩
theorem cut_map {α β : Type} (f : α → β) (l : List α) (lo hi : Option Int) : cutP (l.map f) lo hi = (cutP l lo hi).map f := by
  unfold cutP
  rw [List.length_map, List.map_take, List.map_drop]
theorem cut_len {α : Type} (l : List α) (lo hi : Option Int) : (cutP l lo hi).length ≤ l.length := by
  unfold cutP
  rw [List.length_take, List.length_drop]
  omega
theorem comp_names {r : List Str} (R : Roll r) {ρ : Sto} (h0 : dV 2 ρ = some (.tup (r.map PV.str))) : ∀ cs : List Int, compL tTrue (dBin gIx (dV 3) (dBin gMod (dV 0) (dUn gLen (dV 3)))) ρ (cs.map PV.int) = some ((cs.map fun (c : Int) => r.getD (c % ((r.length : Nat) : Int)).toNat "").map PV.str)
  | [] => rfl
  | c :: cs => by
    have n1 := R.n1
    have hl := mod_lt c (n := r.length) (by omega)
    have h3 : dV 3 (.sh (.int c) :: ρ) = some (.tup (r.map PV.str)) := h0
    have e : dBin gIx (dV 3) (dBin gMod (dV 0) (dUn gLen (dV 3))) (.sh (.int c) :: ρ) = some (.str (r.getD (c % ((r.length : Nat) : Int)).toNat "")) := by
      refine (dBin_eq h3 ((dBin_eq (x := .int c) (y := .int (r.length : Nat)) rfl ((dUn_eq h3).trans ?_)).trans (gMod_nat _ (by omega)))).trans ?_
      · show some (PV.int (((r.map PV.str).length : Nat) : Int)) = _
        rw [List.length_map]
      · show itemAt (r.map PV.str) (((c % ((r.length : Nat) : Int)).toNat : Nat) : Int) = _
        rw [item_nat (by rw [List.length_map]; exact hl), List.getElem_map, List.getD_eq_getElem?_getD, List.getElem?_eq_getElem hl]
        rfl
    show ((dBin gIx (dV 3) (dBin gMod (dV 0) (dUn gLen (dV 3))) (.sh (.int c) :: ρ)).bind fun z => (compL tTrue (dBin gIx (dV 3) (dBin gMod (dV 0) (dUn gLen (dV 3)))) ρ (cs.map PV.int)).map (z :: ·)) = _
    rw [e, comp_names R h0 cs]
    rfl
theorem sSetA_lst {i : Nat} {a : Den} {ρ : Sto} {l : List PV} (h : a ρ = some (.lst l)) : sSetA i a ρ = some (.nx (ρ.set i (.ow l))) := by
  unfold sSetA
  rw [h]
  rfl
theorem sSetA_tup {i : Nat} {a : Den} {ρ : Sto} {l : List PV} (h : a ρ = some (.tup l)) : sSetA i a ρ = some (.nx (ρ.set i (.sh (.tup l)))) := by
  unfold sSetA
  rw [h]
  rfl
theorem getD_mem {r : List Str} {j : Nat} (h : j < r.length) : r.getD j "" ∈ r := by
  rw [List.getD_eq_getElem?_getD, List.getElem?_eq_getElem h]
  exact List.getElem_mem h
section
variable {FC FG FU FNT FM FS FN FO FGT : List PV → Option PV} (hC : ∀ (ns : List Int) (k : Nat), FC [scr ns, .int k] = some (.int (ns.getD k 0)))
  (hG : ∀ {r ys : List Str}, Roll r → (∀ y ∈ ys, y ∈ r) → FG [.tup (r.map PV.str), .lst (ys.map PV.str)] = some (.int (gOf r 0 ys : Nat)))
  (hU : ∀ (c far : Int) {n : Nat}, n ≤ 6 → 0 ≤ far → far < 10 ^ 59 → ∃ g : Int, g.natAbs < 10 ^ 60 ∧ FU [.int c, .int ((2 ^ n : Nat) : Int), .int far] = some (.int g))
  (hNT : ∀ {r : List Str}, Roll r → ∀ g : Int, g.natAbs < 10 ^ 100 → FNT [.tup (r.map PV.str), .int g] = some (toldN r g))
  (hM : ∀ {r : List Str}, Roll r → ∀ m : Nat, FM [.tup (r.map PV.str), .int (m : Nat)] = some (.lst ((mem r m).map PV.str)))
  (hSl : ∀ xs : List Str, xs.length ≤ 1000 → FS [.lst (xs.map PV.str), .lst (xs.map PV.str)] = some (.bl true)) (hSn : ∀ a : Nat, FS [.int (a : Nat), .int (a : Nat)] = some (.bl true))
  (hNm : ∀ (ns : List Int) (a many : Nat), many ≤ 6 → ∃ f : Nat → Str, (∀ k, OkN (f k)) ∧ (∀ j k, j < 6 → k < 6 → j ≠ k → f j ≠ f k) ∧ FN [scr ns, .int a, .int many] = some (.lst (((List.range many).map f).map PV.str)))
  (hO : ∀ {r : List Str}, Roll r → ∀ {x : Str}, OkN x → ∀ c : Int, ∃ z : Str, As z ∧ z ∉ r ∧ z.length ≤ 100 ∧ FO [.tup (r.map PV.str), .str x, .int c] = some (.str z))
  (hGT : ∀ {r ys : List Str}, Roll r → (∀ y ∈ ys, As y ∧ y.length ≤ 5000) → FGT [.tup (r.map PV.str), .lst (ys.map PV.str)] = some (toldG r ys))
theorem told_same {r zs : List Str} (hl : zs.length ≤ 900) (hSl : ∀ xs : List Str, xs.length ≤ 1000 → FS [.lst (xs.map PV.str), .lst (xs.map PV.str)] = some (.bl true)) (hSn : ∀ a : Nat, FS [.int (a : Nat), .int (a : Nat)] = some (.bl true)) : FS [toldG r zs, toldG r zs] = some (.bl true) := by
  unfold toldG
  split
  · exact hSn _
  · exact hSl ["NoHand"] (by decide)
include hC hO in
theorem hand_step {r : List Str} (R : Roll r) (ns : List Int) (f : Int) {ys : List Str} (hy : ∀ y ∈ ys, y ∈ r) (hl : ys.length ≤ 63) : ∃ (zs : List Str) (s5 : Slot), zs.length ≤ 64 ∧ (∀ z ∈ zs, As z ∧ z.length ≤ 5000) ∧
    (sIf (tV (dBin gEq (dBin gMod (dBin gDiv (dV 1) (dC (.int 6))) (dC (.int 4))) (dC (.int 1)))) (sSeq (sSet 5 (dBin gMod (dBin gDiv (dV 1) (dC (.int 24))) (dBin gAdd (dUn gLen (dV 3)) (dC (.int 1))))) (sSeq (sMut 3 mInsert (dCons (dVS 5) (dCons (dCall FO (dCons (dVS 2) (dCons (dBin gIx (dV 2) (dBin gMod (dBin gDiv (dV 1) (dC (.int 24))) (dUn gLen (dV 2)))) (dCons (dCall FC (dCons (dVS 0) (dCons (dC (.int 1)) dNil))) dNil)))) dNil))) (sSet 4 (dLst (dCons (dC (.str "NoHand")) dNil))))) sNext)
      [.sh (scr ns), .sh (.int f), .sh (.tup (r.map PV.str)), .ow (ys.map PV.str), .sh (.int (gOf r 0 ys : Nat)), .un, .un, .un, .un, .un] = some (.nx [.sh (scr ns), .sh (.int f), .sh (.tup (r.map PV.str)), .ow (zs.map PV.str), .sh (toldG r zs), s5, .un, .un, .un, .un]) := by
  have zl : (5000 : Nat) ≤ sizeLine := by decide
  have ok : ∀ y ∈ ys, As y ∧ y.length ≤ 5000 := fun y h => by
    obtain ⟨o1, _, o3⟩ := R.ok y (hy y h)
    exact ⟨o1.as, by omega⟩
  have t : tV (dBin gEq (dBin gMod (dBin gDiv (dV 1) (dC (.int 6))) (dC (.int 4))) (dC (.int 1))) [.sh (scr ns), .sh (.int f), .sh (.tup (r.map PV.str)), .ow (ys.map PV.str), .sh (.int (gOf r 0 ys : Nat)), .un, .un, .un, .un, .un] = some (decide (f / 6 % 4 = 1)) := tV_eq rfl
  cases hd : decide (f / 6 % 4 = 1) with
  | false =>
    rw [hd] at t
    refine ⟨ys, .un, by omega, ok, (sIf_f t).trans ?_⟩
    have : toldG r ys = .int (gOf r 0 ys : Nat) := by
      unfold toldG
      rw [if_pos (List.all_eq_true.mpr fun y h => decide_eq_true (hy y h))]
    rw [this]
    rfl
  | true =>
    rw [hd] at t
    have n1 := R.n1
    have ha := mod_lt (f / 24) (n := ys.length + 1) (by omega)
    have hi := mod_lt (f / 24) (n := r.length) (by omega)
    generalize ea : (f / 24 % ((ys.length + 1 : Nat) : Int)).toNat = a at ha
    generalize ei : (f / 24 % ((r.length : Nat) : Int)).toNat = i at hi
    obtain ⟨z, z1, z2, z3, z4⟩ := hO R (R.ok _ (List.getElem_mem hi)) (ns.getD 1 0)
    have nall : ((ys.take a ++ z :: ys.drop a).all fun y => decide (y ∈ r)) = false := by
      rw [List.all_append, List.all_cons, decide_eq_false z2, Bool.false_and, Bool.and_false]
    refine ⟨ys.take a ++ z :: ys.drop a, .sh (.int (a : Nat)), ?_, fun w hw => ?_, (sIf_t t).trans ?_⟩
    · rw [List.length_append, List.length_cons, List.length_take, List.length_drop]
      omega
    · rcases List.mem_append.mp hw with hw | hw
      · exact ok w (List.mem_of_mem_take hw)
      · rcases List.mem_cons.mp hw with rfl | hw
        · exact ⟨z1, by omega⟩
        · exact ok w (List.mem_of_mem_drop hw)
    have e5 : dBin gMod (dBin gDiv (dV 1) (dC (.int 24))) (dBin gAdd (dUn gLen (dV 3)) (dC (.int 1))) [.sh (scr ns), .sh (.int f), .sh (.tup (r.map PV.str)), .ow (ys.map PV.str), .sh (.int (gOf r 0 ys : Nat)), .un, .un, .un, .un, .un] = some (.int (a : Nat)) := by
      refine (dBin_eq (x := .int (f / 24)) (y := .int ((ys.length + 1 : Nat) : Int)) rfl ?_).trans ((gMod_nat _ (by omega)).trans (by rw [ea]))
      show some (PV.int ((((ys.map PV.str).length : Nat) : Int) + 1)) = _
      rw [List.length_map]
      rfl
    refine (sSeq_nx (sSet_eq e5)).trans ?_
    have eO : dCall FO (dCons (dVS 2) (dCons (dBin gIx (dV 2) (dBin gMod (dBin gDiv (dV 1) (dC (.int 24))) (dUn gLen (dV 2)))) (dCons (dCall FC (dCons (dVS 0) (dCons (dC (.int 1)) dNil))) dNil))) [.sh (scr ns), .sh (.int f), .sh (.tup (r.map PV.str)), .ow (ys.map PV.str), .sh (.int (gOf r 0 ys : Nat)), .sh (.int (a : Nat)), .un, .un, .un, .un] = some (.str z) := by
      refine (dCall_eq (dCons_eq (x := .tup (r.map PV.str)) rfl (dCons_eq (x := .str r[i]) ?_ (dCons_eq ((dCall_eq (ps := [scr ns, .int ((1 : Nat) : Int)]) rfl).trans (hC ns 1)) rfl)))).trans z4
      refine (dBin_eq (x := .tup (r.map PV.str)) (y := .int (i : Nat)) rfl ((dBin_eq (x := .int (f / 24)) (y := .int (r.length : Nat)) rfl ?_).trans ((gMod_nat _ (by omega)).trans (by rw [ei])))).trans ?_
      · show some (PV.int (((r.map PV.str).length : Nat) : Int)) = _
        rw [List.length_map]
      · show itemAt (r.map PV.str) ((i : Nat) : Int) = _
        rw [item_nat (by rw [List.length_map]; exact hi), List.getElem_map]
    have em : sMut 3 mInsert (dCons (dVS 5) (dCons (dCall FO (dCons (dVS 2) (dCons (dBin gIx (dV 2) (dBin gMod (dBin gDiv (dV 1) (dC (.int 24))) (dUn gLen (dV 2)))) (dCons (dCall FC (dCons (dVS 0) (dCons (dC (.int 1)) dNil))) dNil)))) dNil)) [.sh (scr ns), .sh (.int f), .sh (.tup (r.map PV.str)), .ow (ys.map PV.str), .sh (.int (gOf r 0 ys : Nat)), .sh (.int (a : Nat)), .un, .un, .un, .un] = some (.nx [.sh (scr ns), .sh (.int f), .sh (.tup (r.map PV.str)), .ow ((ys.take a ++ z :: ys.drop a).map PV.str), .sh (.int (gOf r 0 ys : Nat)), .sh (.int (a : Nat)), .un, .un, .un, .un]) := by
      have ea' := dCons_eq (a := dVS 5) (x := .int (a : Nat)) (ρ := [.sh (scr ns), .sh (.int f), .sh (.tup (r.map PV.str)), .ow (ys.map PV.str), .sh (.int (gOf r 0 ys : Nat)), .sh (.int (a : Nat)), .un, .un, .un, .un]) rfl (dCons_eq (as := dNil) (xs := []) eO rfl)
      unfold sMut
      rw [ea']
      show ((if decide (0 ≤ ((a : Nat) : Int)) && decide (((a : Nat) : Int).toNat ≤ (ys.map PV.str).length) && decide ((ys.map PV.str).length < sizeLine) then some ((ys.map PV.str).take ((a : Nat) : Int).toNat ++ PV.str z :: (ys.map PV.str).drop ((a : Nat) : Int).toNat) else none).map fun l' => Fl.nx [.sh (scr ns), .sh (.int f), .sh (.tup (r.map PV.str)), .ow l', .sh (.int (gOf r 0 ys : Nat)), .sh (.int (a : Nat)), .un, .un, .un, .un]) = _
      rw [Int.toNat_natCast, List.length_map, decide_eq_true (show (0 : Int) ≤ ((a : Nat) : Int) by omega), decide_eq_true (show a ≤ ys.length by omega), decide_eq_true (show ys.length < sizeLine by omega), List.map_append, List.map_cons, List.map_take, List.map_drop]
      rfl
    refine (sSeq_nx em).trans ?_
    have : toldG r (ys.take a ++ z :: ys.drop a) = .lst [.str "NoHand"] := by
      unfold toldG
      rw [nall]
      rfl
    rw [this]
    exact sSet_eq (dLst_eq (xs := [.str "NoHand"]) rfl (by decide))
include hC hG hU hNT hM hSl hSn hNm hO hGT in
theorem law_gen (ns : List Int) (h63 : ns.length ≤ 63) : fn false 10 1 (g_law FC FG FU FNT FM FS FN FO FGT) [scr ns] = some (.bl true) := by
  have hn := mod_lt (ns.getD 0 0) (n := 6) (by decide)
  obtain ⟨f, f1, f2, f3⟩ := hNm ns 2 (1 + (ns.getD 0 0 % ((6 : Nat) : Int)).toNat) (by omega)
  have R : Roll ((List.range (1 + (ns.getD 0 0 % ((6 : Nat) : Int)).toNat)).map f) := by
    refine ⟨by rw [List.length_map, List.length_range]; omega, by rw [List.length_map, List.length_range]; omega, fun x hx => ?_, ?_⟩
    · obtain ⟨k, _, rfl⟩ := List.mem_map.mp hx
      exact f1 k
    · refine List.pairwise_map.mpr (List.Pairwise.imp_of_mem (fun {a b} ha hb hab => ?_) List.pairwise_lt_range)
      have := List.mem_range.mp ha
      have := List.mem_range.mp hb
      exact f2 a b (by omega) (by omega) (by omega)
  have lr : ((List.range (1 + (ns.getD 0 0 % ((6 : Nat) : Int)).toNat)).map f).length = 1 + (ns.getD 0 0 % ((6 : Nat) : Int)).toNat := by rw [List.length_map, List.length_range]
  refine fn_rt rfl ?_
  refine (sSeq_nx (sSet_eq ((dCall_eq (ps := [scr ns, .int ((0 : Nat) : Int)]) rfl).trans (hC ns 0)))).trans ?_
  have eR : dUn gTuple (dCall FN (dCons (dVS 0) (dCons (dC (.int 2)) (dCons (dBin gAdd (dC (.int 1)) (dBin gMod (dV 1) (dC (.int 6)))) dNil)))) [.sh (scr ns), .sh (.int (ns.getD 0 0)), .un, .un, .un, .un, .un, .un, .un, .un] = some (.tup (((List.range (1 + (ns.getD 0 0 % ((6 : Nat) : Int)).toNat)).map f).map PV.str)) := by
    refine (dUn_eq ((dCall_eq (dCons_eq (x := scr ns) rfl (dCons_eq (x := .int ((2 : Nat) : Int)) rfl (dCons_eq (x := .int ((1 + (ns.getD 0 0 % ((6 : Nat) : Int)).toNat : Nat) : Int)) ?_ rfl)))).trans f3)).trans rfl
    exact (dBin_eq (x := .int ((1 : Nat) : Int)) rfl ((dBin_eq (x := .int (ns.getD 0 0)) (y := .int ((6 : Nat) : Int)) rfl rfl).trans (gMod_nat _ (by decide)))).trans rfl
  refine (sSeq_nx (sSet_eq eR)).trans ?_
  generalize (List.range (1 + (ns.getD 0 0 % ((6 : Nat) : Int)).toNat)).map f = r at R
  generalize ns.getD 0 0 = first
  have eY : dComp (nList (dSl (dV 0) (oSome (dC (.int 6))) (oSome (dC (.int 63))))) tTrue (dBin gIx (dV 3) (dBin gMod (dV 0) (dUn gLen (dV 3)))) [.sh (scr ns), .sh (.int first), .sh (.tup (r.map PV.str)), .un, .un, .un, .un, .un, .un, .un] = some (.lst (((cutP ns (some 6) (some 63)).map fun (c : Int) => r.getD (c % ((r.length : Nat) : Int)).toNat "").map PV.str)) := by
    refine dComp_eq (xs := (cutP ns (some 6) (some 63)).map PV.int) ?_ ?_ (comp_names R rfl _)
    · refine nList_eq ?_
      show some (PV.lst (cutP (ns.map PV.int) (some 6) (some 63))) = _
      rw [cut_map]
    · rw [List.length_map]
      have := cut_len ns (some 6) (some 63)
      omega
  refine (sSeq_nx (sSetO_eq eY)).trans ?_
  have hl : ((cutP ns (some 6) (some 63)).map fun (c : Int) => r.getD (c % ((r.length : Nat) : Int)).toNat "").length ≤ 63 := by
    rw [List.length_map]
    have := cut_len ns (some 6) (some 63)
    omega
  have hy : ∀ y ∈ (cutP ns (some 6) (some 63)).map fun (c : Int) => r.getD (c % ((r.length : Nat) : Int)).toNat "", y ∈ r := fun y hh => by
    obtain ⟨c, _, rfl⟩ := List.mem_map.mp hh
    exact getD_mem (mod_lt c R.n1)
  generalize (cutP ns (some 6) (some 63)).map (fun (c : Int) => r.getD (c % ((r.length : Nat) : Int)).toNat "") = ys at hl hy
  refine (sSeq_nx (sSet_eq (dCallF_eq (ps := [.tup (r.map PV.str), .lst (ys.map PV.str)]) rfl (hG R hy) rfl))).trans ?_
  obtain ⟨zs, s5, z1, z2, z3⟩ := hand_step hC hO R ns first hy hl
  refine (sSeq_nx z3).trans ?_
  refine (sSeq_nx (sSet_eq (p := .lst (zs.map PV.str)) rfl)).trans ?_
  have hsame := told_same (FS := FS) (r := r) (zs := zs) (by omega) hSl hSn
  have hrev : toldG r zs.reverse = toldG r zs := by
    unfold toldG
    rw [List.all_reverse, gOf_mem (ys := zs.reverse) (zs := zs) fun x => List.mem_reverse]
  have c1 : tOr (tNot (tV (dCall FS (dCons (dCall FGT (dCons (dVS 2) (dCons (dVS 6) dNil))) (dCons (dVS 4) dNil))))) (tNot (tV (dCallF FS (dCons (dV 6) (dCons (dV 3) dNil))))) [.sh (scr ns), .sh (.int first), .sh (.tup (r.map PV.str)), .ow (zs.map PV.str), .sh (toldG r zs), s5, .sh (.lst (zs.map PV.str)), .un, .un, .un] = some false := by
    refine (tOr_f (tNot_eq (b := true) (tV_eq ((dCall_eq (dCons_eq ((dCall_eq (ps := [.tup (r.map PV.str), .lst (zs.map PV.str)]) rfl).trans (hGT R z2)) (dCons_eq (x := toldG r zs) rfl rfl))).trans hsame)))).trans ?_
    exact tNot_eq (b := true) (tV_eq (dCallF_eq (ps := [.lst (zs.map PV.str), .lst (zs.map PV.str)]) rfl (hSl zs (by omega)) rfl))
  refine (sSeq_nx ((sIf_f c1).trans rfl)).trans ?_
  have c2 : tNot (tV (dCall FS (dCons (dCall FGT (dCons (dVS 2) (dCons (dUn gRevL (dV 3)) dNil))) (dCons (dVS 4) dNil)))) [.sh (scr ns), .sh (.int first), .sh (.tup (r.map PV.str)), .ow (zs.map PV.str), .sh (toldG r zs), s5, .sh (.lst (zs.map PV.str)), .un, .un, .un] = some false := by
    refine tNot_eq (b := true) (tV_eq ((dCall_eq (dCons_eq (x := toldG r zs) ((dCall_eq (dCons_eq (x := .tup (r.map PV.str)) rfl (dCons_eq (x := .lst (zs.reverse.map PV.str)) ?_ rfl))).trans ((hGT R (ys := zs.reverse) fun y hy => z2 y (List.mem_reverse.mp hy)).trans (by rw [hrev]))) (dCons_eq (x := toldG r zs) rfl rfl))).trans hsame))
    show some (PV.lst (zs.map PV.str).reverse) = _
    rw [List.map_reverse]
  refine (sSeq_nx ((sIf_f c2).trans rfl)).trans ?_
  generalize toldG r zs = due
  have p59 : dBin gPow (dC (.int 10)) (dC (.int 59)) [.sh (scr ns), .sh (.int first), .sh (.tup (r.map PV.str)), .ow (zs.map PV.str), .sh due, s5, .sh (.lst (zs.map PV.str)), .un, .un, .un] = some (.int (10 ^ 59)) := rfl
  obtain ⟨g, g1, g2⟩ := hU (ns.getD 4 0) (ns.getD 5 0 % 10 ^ 59) R.n6 (Int.emod_nonneg _ (by decide)) (Int.emod_lt_of_pos _ (by decide))
  have eg : dCall FU (dCons (dCall FC (dCons (dVS 0) (dCons (dC (.int 4)) dNil))) (dCons (dBin gShl (dC (.int 1)) (dUn gLen (dV 2))) (dCons (dBin gMod (dCall FC (dCons (dVS 0) (dCons (dC (.int 5)) dNil))) (dBin gPow (dC (.int 10)) (dC (.int 59)))) dNil))) [.sh (scr ns), .sh (.int first), .sh (.tup (r.map PV.str)), .ow (zs.map PV.str), .sh due, s5, .sh (.lst (zs.map PV.str)), .un, .un, .un] = some (.int g) :=
    (dCall_eq (dCons_eq ((dCall_eq (ps := [scr ns, .int ((4 : Nat) : Int)]) rfl).trans (hC ns 4)) (dCons_eq (shl_len R rfl) (dCons_eq ((dBin_eq ((dCall_eq (ps := [scr ns, .int ((5 : Nat) : Int)]) rfl).trans (hC ns 5)) p59).trans (gMod_pos _ (by decide))) rfl)))).trans g2
  refine (sSeq_nx (sSet_eq eg)).trans ?_
  have g100 : g.natAbs < 10 ^ 100 := Nat.lt_of_lt_of_le g1 (Nat.pow_le_pow_right (by decide) (by decide))
  have eT : ∀ s8 s9 : Slot, dCall FNT (dCons (dVS 2) (dCons (dVS 7) dNil)) [.sh (scr ns), .sh (.int first), .sh (.tup (r.map PV.str)), .ow (zs.map PV.str), .sh due, s5, .sh (.lst (zs.map PV.str)), .sh (.int g), s8, s9] = some (toldN r g) := fun s8 s9 => (dCall_eq (ps := [.tup (r.map PV.str), .int g]) rfl).trans (hNT R g g100)
  have tq : ∀ s8 : Slot, tOr (tV (dBin gLt (dV 7) (dC (.int 0)))) (tV (dBin gGe (dV 7) (dBin gShl (dC (.int 1)) (dUn gLen (dV 2))))) [.sh (scr ns), .sh (.int first), .sh (.tup (r.map PV.str)), .ow (zs.map PV.str), .sh due, s5, .sh (.lst (zs.map PV.str)), .sh (.int g), s8, .un] = some (!(decide (0 ≤ g) && decide (g < ((2 ^ r.length : Nat) : Int)))) := fun s8 => by
    have t1 : tV (dBin gLt (dV 7) (dC (.int 0))) [.sh (scr ns), .sh (.int first), .sh (.tup (r.map PV.str)), .ow (zs.map PV.str), .sh due, s5, .sh (.lst (zs.map PV.str)), .sh (.int g), s8, .un] = some (decide (g < 0)) := tV_eq rfl
    by_cases h0 : 0 ≤ g
    · rw [decide_eq_false (by omega)] at t1
      rw [decide_eq_true h0, Bool.true_and]
      refine (tOr_f t1).trans (tV_eq ((dBin_eq (x := .int g) rfl (shl_len R rfl)).trans ?_))
      show some (PV.bl (decide (((2 ^ r.length : Nat) : Int) ≤ g))) = _
      generalize ((2 ^ r.length : Nat) : Int) = q
      by_cases hq : g < q
      · rw [decide_eq_true hq, decide_eq_false (by omega)]; rfl
      · rw [decide_eq_false hq, decide_eq_true (by omega)]; rfl
    · rw [decide_eq_true (by omega)] at t1
      rw [decide_eq_false h0]
      exact tOr_t t1
  unfold toldN at eT
  cases hb : decide (0 ≤ g) && decide (g < ((2 ^ r.length : Nat) : Int)) with
  | false =>
    rw [hb] at eT tq
    refine (sSeq_nx (sSetA_tup (eT _ _))).trans ?_
    refine sSeq_rt ((sIf_t (tq _)).trans (sRet_eq ?_))
    refine (dBin_eq (x := .tup [.str "NoGroup"]) (y := .tup [.str "NoGroup"]) rfl ?_).trans rfl
    exact rfl
  | true =>
    rw [hb] at eT tq
    rw [if_pos rfl] at eT
    refine (sSeq_nx (sSetA_lst (eT _ _))).trans ?_
    refine (sSeq_nx ((sIf_f (tq _)).trans rfl)).trans ?_
    rw [Bool.and_eq_true] at hb
    have h0 := of_decide_eq_true hb.1
    have h1 := of_decide_eq_true hb.2
    obtain ⟨m, rfl⟩ : ∃ m : Nat, g = (m : Int) := ⟨g.toNat, by omega⟩
    have hm : m < 2 ^ r.length := Int.ofNat_lt.mp h1
    rw [Int.toNat_natCast, sel_mem R hm] at eT
    rw [Int.toNat_natCast, sel_mem R hm]
    have lm : (mem r m).length ≤ 1000 := by
      rw [mem_sel, List.length_map]
      refine Nat.le_trans (List.length_filter_le _ _) ?_
      rw [List.length_range]
      have := R.n6
      omega
    refine (sSeq_nx (sSet_eq ((dCall_eq (ps := [.tup (r.map PV.str), .int (m : Nat)]) rfl).trans (hM R m)))).trans ?_
    have c3 : tNot (tV (dCallF FS (dCons (dV 8) (dCons (dV 9) dNil)))) [.sh (scr ns), .sh (.int first), .sh (.tup (r.map PV.str)), .ow (zs.map PV.str), .sh due, s5, .sh (.lst (zs.map PV.str)), .sh (.int (m : Nat)), .ow ((mem r m).map PV.str), .sh (.lst ((mem r m).map PV.str))] = some false :=
      tNot_eq (b := true) (tV_eq (dCallF_eq (ps := [.lst ((mem r m).map PV.str), .lst ((mem r m).map PV.str)]) rfl (hSl _ lm) rfl))
    refine (sSeq_nx ((sIf_f c3).trans rfl)).trans ?_
    have cl : sMut 8 mClear dNil [.sh (scr ns), .sh (.int first), .sh (.tup (r.map PV.str)), .ow (zs.map PV.str), .sh due, s5, .sh (.lst (zs.map PV.str)), .sh (.int (m : Nat)), .ow ((mem r m).map PV.str), .sh (.lst ((mem r m).map PV.str))] = some (.nx [.sh (scr ns), .sh (.int first), .sh (.tup (r.map PV.str)), .ow (zs.map PV.str), .sh due, s5, .sh (.lst (zs.map PV.str)), .sh (.int (m : Nat)), .ow [], .sh (.lst ((mem r m).map PV.str))]) := rfl
    refine (sSeq_nx cl).trans (sRet_eq ?_)
    exact (dCall_eq (dCons_eq (eT _ _) (dCons_eq (x := .lst ((mem r m).map PV.str)) rfl rfl))).trans (hSl _ lm)
end
theorem strs_same (m : Nat) (xs : List Str) : ∀ p ∈ xs.map PV.str, Fr_law_same (m + 1) [p, p] = some (.bl true) := fun p hp => by
  obtain ⟨x, _, rfl⟩ := List.mem_map.mp hp
  exact same_str m x
theorem law_true (ns : List Int) (h : ns.length ≤ 63) : F_law [.lst (ns.map .int)] = some (.bl true) :=
  law_gen cell_eq lgroup_eq number_eq ntold_eq members_eq (fun xs h => same_lst (m := 3) (strs_same 2 xs) (by rw [List.length_map]; omega)) (fun a => same_n 3 a) names_eq nohand_eq gtold_eq ns h
end L2.D.My
open PySem PySem.W PyProof.Rows
set_option maxRecDepth 100000 in
set_option maxHeartbeats 0 in
theorem PySem.Challenge.cw_signright_k02_groups_and_names_holds : PySem.Challenge.rw_signright_k02_groups_and_names.Holds := by
  w_on; o_law; k_head; (case hw => w_witness2)
  k_fill
  refine L2.D.walkD (l := PySem.Challenge.rw_signright_k02_groups_and_names) (k := 5) (x := "_law_script") (F := L2.D.My.F_law) (κ := L2.D.kl0) rfl (by decide) rfl ⟨rfl, by decide, by decide⟩ (fun w h Y => PySem.W.kIn_of Y) ?F L2.D.My.law_true
  case F =>
    intro w mg fa h KX G hmg
    refine' L2.D.My.all_mk KX G hmg ?a_SignError ?a_NoRoll ?a_NoHand ?a_NoGroup ?a_NoRule ?a_NoDay ?a_NoDeputy ?a_NoEntry ?a_Unruled ?in_ ?it_ ?bt_ ?bs_ ?bb_ ?ex_NoGroup ?xg_NoGroup ?xh_NoGroup ?xc_NoGroup ?xm_NoGroup ?xb_NoGroup ?xs_NoGroup ?b4_NoGroup ?ik_NoGroup_NoRoll ?ik_NoGroup_NoHand ?ik_NoGroup_NoGroup ?ik_NoGroup_NoRule ?ik_NoGroup_NoDay ?ik_NoGroup_NoDeputy ?ik_NoGroup_NoEntry ?ik_NoGroup_Unruled ?ik_NoGroup_ValueError ?ex_NoHand ?xg_NoHand ?xh_NoHand ?xc_NoHand ?xm_NoHand ?xb_NoHand ?xs_NoHand ?b4_NoHand ?ik_NoHand_NoRoll ?ik_NoHand_NoHand ?ik_NoHand_NoGroup ?ik_NoHand_NoRule ?ik_NoHand_NoDay ?ik_NoHand_NoDeputy ?ik_NoHand_NoEntry ?ik_NoHand_Unruled ?ik_NoHand_ValueError ?a_law_cell_at ?l_law_cell_at ?c_law_cell_at ?k_law_cell_at ?a_law_group ?l_law_group ?c_law_group ?k_law_group ?a_law_number ?l_law_number ?c_law_number ?k_law_number ?a_has_hand ?l_has_hand ?c_has_hand ?k_has_hand ?a_hands_of ?l_hands_of ?c_hands_of ?k_hands_of ?a_names_of ?l_names_of ?c_names_of ?k_names_of ?a_law_kinds ?l_law_kinds ?c_law_kinds ?k_law_kinds ?a_law_names_told ?l_law_names_told ?c_law_names_told ?k_law_names_told ?a_law_members ?l_law_members ?c_law_members ?k_law_members ?a_law_same ?l_law_same ?c_law_same ?k_law_same ?a_law_name ?l_law_name ?c_law_name ?k_law_name ?a_law_base ?l_law_base ?c_law_base ?k_law_base ?a_law_names ?l_law_names ?c_law_names ?k_law_names ?a_law_no_hand ?l_law_no_hand ?c_law_no_hand ?k_law_no_hand ?a_group_of ?l_group_of ?c_group_of ?k_group_of ?a_law_group_told ?l_law_group_told ?c_law_group_told ?k_law_group_told ?a_law ?l_law ?c_law ?k_law ?z_ValueError ?z_bool ?z_int ?z_isinstance ?z_len ?z_list ?z_range ?z_str ?z_tuple
    (case a_SignError => k_is)
    (case a_NoRoll => k_is)
    (case a_NoHand => k_is)
    (case a_NoGroup => k_is)
    (case a_NoRule => k_is)
    (case a_NoDay => k_is)
    (case a_NoDeputy => k_is)
    (case a_NoEntry => k_is)
    (case a_Unruled => k_is)
    (case in_ => k_is)
    (case it_ => k_is)
    (case bt_ => k_is)
    (case bs_ => k_is)
    (case bb_ => k_is)
    (case ex_NoGroup => k_exc)
    (case xg_NoGroup => k_is)
    (case xh_NoGroup => k_is)
    (case xc_NoGroup => k_is)
    (case xm_NoGroup => k_is)
    (case xb_NoGroup => k_is)
    (case xs_NoGroup => k_is)
    (case b4_NoGroup => k_is)
    (case ik_NoGroup_NoRoll => kit_is)
    (case ik_NoGroup_NoHand => kit_is)
    (case ik_NoGroup_NoGroup => kit_is)
    (case ik_NoGroup_NoRule => kit_is)
    (case ik_NoGroup_NoDay => kit_is)
    (case ik_NoGroup_NoDeputy => kit_is)
    (case ik_NoGroup_NoEntry => kit_is)
    (case ik_NoGroup_Unruled => kit_is)
    (case ik_NoGroup_ValueError => kit_is)
    (case ex_NoHand => k_exc)
    (case xg_NoHand => k_is)
    (case xh_NoHand => k_is)
    (case xc_NoHand => k_is)
    (case xm_NoHand => k_is)
    (case xb_NoHand => k_is)
    (case xs_NoHand => k_is)
    (case b4_NoHand => k_is)
    (case ik_NoHand_NoRoll => kit_is)
    (case ik_NoHand_NoHand => kit_is)
    (case ik_NoHand_NoGroup => kit_is)
    (case ik_NoHand_NoRule => kit_is)
    (case ik_NoHand_NoDay => kit_is)
    (case ik_NoHand_NoDeputy => kit_is)
    (case ik_NoHand_NoEntry => kit_is)
    (case ik_NoHand_Unruled => kit_is)
    (case ik_NoHand_ValueError => kit_is)
    (case a_law_cell_at => k_is)
    (case l_law_cell_at => k_is)
    (case c_law_cell_at => k_is)
    (case k_law_cell_at => k_is)
    (case a_law_group => k_is)
    (case l_law_group => k_is)
    (case c_law_group => k_is)
    (case k_law_group => k_is)
    (case a_law_number => k_is)
    (case l_law_number => k_is)
    (case c_law_number => k_is)
    (case k_law_number => k_is)
    (case a_has_hand => k_is)
    (case l_has_hand => k_is)
    (case c_has_hand => k_is)
    (case k_has_hand => k_is)
    (case a_hands_of => k_is)
    (case l_hands_of => k_is)
    (case c_hands_of => k_is)
    (case k_hands_of => k_is)
    (case a_names_of => k_is)
    (case l_names_of => k_is)
    (case c_names_of => k_is)
    (case k_names_of => k_is)
    (case a_law_kinds => k_is)
    (case l_law_kinds => k_is)
    (case c_law_kinds => k_is)
    (case k_law_kinds => k_is)
    (case a_law_names_told => k_is)
    (case l_law_names_told => k_is)
    (case c_law_names_told => k_is)
    (case k_law_names_told => k_is)
    (case a_law_members => k_is)
    (case l_law_members => k_is)
    (case c_law_members => k_is)
    (case k_law_members => k_is)
    (case a_law_same => k_is)
    (case l_law_same => k_is)
    (case c_law_same => k_is)
    (case k_law_same => k_is)
    (case a_law_name => k_is)
    (case l_law_name => k_is)
    (case c_law_name => k_is)
    (case k_law_name => k_is)
    (case a_law_base => k_is)
    (case l_law_base => k_is)
    (case c_law_base => k_is)
    (case k_law_base => k_is)
    (case a_law_names => k_is)
    (case l_law_names => k_is)
    (case c_law_names => k_is)
    (case k_law_names => k_is)
    (case a_law_no_hand => k_is)
    (case l_law_no_hand => k_is)
    (case c_law_no_hand => k_is)
    (case k_law_no_hand => k_is)
    (case a_group_of => k_is)
    (case l_group_of => k_is)
    (case c_group_of => k_is)
    (case k_group_of => k_is)
    (case a_law_group_told => k_is)
    (case l_law_group_told => k_is)
    (case c_law_group_told => k_is)
    (case k_law_group_told => k_is)
    (case a_law => k_is)
    (case l_law => k_is)
    (case c_law => k_is)
    (case k_law => k_is)
    (case z_ValueError => k_is)
    (case z_bool => k_is)
    (case z_int => k_is)
    (case z_isinstance => k_is)
    (case z_len => k_is)
    (case z_list => k_is)
    (case z_range => k_is)
    (case z_str => k_is)
    (case z_tuple => k_is)
